"""Papers: things by which it can be looked at that a net levels."""

from evenpass.counts import exits
from evenpass.depths import depth_power
from evenpass.errors import TooMany
from evenpass.level import is_level, level_counts
from evenpass.nets import is_lane, is_whole
from evenpass.verdict import levels

MOST_TO_PUT_TOGETHER = 32


def is_paper(thing, word, size):
    # Its kind is asked first: a thing of another kind may fail when it is measured or compared.
    if not isinstance(thing, tuple) or len(thing) != size:
        return False
    return isinstance(thing[0], str) and thing[0] == word


def levels_as_told(net):
    try:
        told = levels(net)
    except TooMany:
        return False
    return told == ("levels",)


def are_lanes(wide, things):
    return isinstance(things, tuple) and all([is_lane(wide, thing) for thing in things])


def are_halves(wide, one, other):
    if not are_lanes(wide, one) or not are_lanes(wide, other):
        return False
    return len(one) == len(other) and sorted(one + other) == list(range(wide))


def keep_apart(wickets, half):
    return all([(first in half) == (second in half) for first, second in wickets])


def net_within(half, wickets):
    own = [(half.index(first), half.index(second)) for first, second in wickets if first in half]
    return (len(half), tuple(own))


def exits_of_sums(net, one, other, sums):
    counts = [0] * net[0]
    numbers = level_counts(len(one), sums[0]) + level_counts(len(other), sums[1])
    for lane, number in zip(one + other, numbers):
        counts[lane] = number
    return exits(net, counts)


def level_below(net, one, other, most):
    for one_sum in range(most):
        for other_sum in range(most):
            if not is_level(exits_of_sums(net, one, other, (one_sum, other_sum))):
                return False
    return True


def all_alike(row):
    return all([number == row[0] for number in row])


def put_together(net, one, other):
    most = len(one) * depth_power(net)
    if most > MOST_TO_PUT_TOGETHER or not level_below(net, one, other, most):
        return False
    from_one = exits_of_sums(net, one, other, (most, 0))
    from_other = exits_of_sums(net, one, other, (0, most))
    return all_alike(from_one) and all_alike(from_other)


def shown_by_halves(net, paper):
    size = paper[1]
    one = paper[2]
    other = paper[3]
    if not is_whole(size) or not 0 <= size <= len(net[1]) or not are_halves(net[0], one, other):
        return False
    within = net[1][:size]
    if not keep_apart(within, one) or not put_together((net[0], net[1][size:]), one, other):
        return False
    return shows(net_within(one, within), paper[4]) and shows(net_within(other, within), paper[5])


def shows(net, paper):
    if is_paper(paper, "one", 1):
        return net[0] == 1
    if is_paper(paper, "all", 1):
        return levels_as_told(net)
    # Each half has half the lanes, so however deep a thing is nested, the lanes run out first.
    return is_paper(paper, "halves", 6) and shown_by_halves(net, paper)
