"""What of a lane's walkers, and of a wicket's odd walker, comes to each exit."""

from evenpass.counts import exits
from evenpass.depths import depth_power


def all_on_one(wide, lane, number):
    counts = [0] * wide
    counts[lane] = number
    return counts


def shares(net):
    power = depth_power(net)
    return [exits(net, all_on_one(net[0], lane, power)) for lane in range(net[0])]


def tilt(net, number, power):
    wicket = net[1][number]
    wickets_behind = (net[0], net[1][number + 1:])
    from_first = exits(wickets_behind, all_on_one(net[0], wicket[0], power))
    from_second = exits(wickets_behind, all_on_one(net[0], wicket[1], power))
    return [more - less for more, less in zip(from_first, from_second)]


def tilts(net):
    power = depth_power(net)
    return [tilt(net, number, power) for number in range(len(net[1]))]


def uneven(net):
    for lane, row in enumerate(shares(net)):
        for place, share in enumerate(row):
            # Where not all are alike, some one is unlike that at lane 0: so the first two begin with 0.
            if share != row[0]:
                return (lane, 0, place)
    return None
