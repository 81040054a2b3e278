"""How far from even what comes out of a net may be."""

from evenpass.counts import exits
from evenpass.depths import depth_power
from evenpass.shares import tilts, uneven
from evenpass.trials import trials


def tilt_between(rows, more, less):
    return sum([max(row[more] - row[less], 0) for row in rows])


def greatest_tilt(net):
    rows = tilts(net)
    greatest = 0
    for more in range(net[0]):
        for less in range(net[0]):
            greatest = max(greatest, tilt_between(rows, more, less))
    return greatest


def common_divisor(one, other):
    while other != 0:
        rest = one % other
        one = other
        other = rest
    return one


def bound(net):
    if uneven(net) is not None:
        return None
    top = greatest_tilt(net)
    # An odd walker tilts by half of one, so what the tilts sum up to is of twice 2 ** depth.
    bottom = 2 * depth_power(net)
    divisor = common_divisor(top, bottom)
    return (top // divisor, bottom // divisor)


def gap_of(net, counts):
    row = exits(net, counts)
    return max(row) - min(row)


def spread(net):
    unlike = uneven(net)
    if unlike is not None:
        return ("uneven", unlike[0], unlike[1], unlike[2])
    widest = max(trials(net), key=lambda counts: gap_of(net, counts))
    return ("spread", gap_of(net, widest), widest)
