"""Rows that it does to go through, in the place of all there are."""

from evenpass.depths import depth, depth_power, layers
from evenpass.errors import TooMany

MOST_DOUBLINGS = 10


def longer_rows(rows, numbers):
    found = []
    for row in rows:
        for number in numbers:
            found.append(row + [number])
    return found


def rows_of(choices):
    rows = [[]]
    for numbers in choices:
        rows = longer_rows(rows, numbers)
    return rows


def first_layer(net):
    return [wicket for wicket, layer in zip(net[1], layers(net)) if layer == 1]


def common_trials(one, other):
    # In nets with like shares 2 ** depth more on a lane are as many more at each exit of both, by the greater
    # depth, and of two lanes that meet ahead of all else in both nets only the sum matters.
    deeper = one if depth(one) > depth(other) else other
    seconds = [wicket[1] for wicket in first_layer(one) if wicket in first_layer(other)]
    if depth(deeper) * (one[0] - len(seconds)) > MOST_DOUBLINGS:
        raise TooMany("too many counts to go through")
    numbers = list(range(depth_power(deeper)))
    return rows_of([[0] if lane in seconds else numbers for lane in range(one[0])])


def trials(net):
    # In a net that isn't uneven what is more on a lane comes to each exit alike, so it changes no gap.
    return common_trials(net, net)
