"""Nets that are made of other nets."""

from evenpass.errors import NoNet, TooMany
from evenpass.nets import MOST_LANES, MOST_WICKETS


def joined(wide, wickets):
    if len(wickets) > MOST_WICKETS:
        raise TooMany("these nets have too many wickets together")
    return (wide, wickets)


def renamed(wickets, order):
    return tuple([(order[first], order[second]) for first, second in wickets])


def behind(one, other):
    if one[0] != other[0]:
        raise NoNet("these nets have unlike numbers of lanes")
    return joined(one[0], one[1] + other[1])


def beside(one, other):
    wide = one[0] + other[0]
    if wide > MOST_LANES:
        raise NoNet("these nets have too many lanes together")
    return joined(wide, one[1] + renamed(other[1], list(range(one[0], wide))))


def called(net, order):
    return (net[0], renamed(net[1], order))


def mirrored(net):
    last = net[0] - 1
    return (net[0], tuple([(last - second, last - first) for first, second in net[1]]))


def slimmed(net):
    # Of the kept wickets the last one on each lane: a wicket is idle where that is its like on both its lanes.
    last_on = [None] * net[0]
    kept = []
    for wicket in net[1]:
        if last_on[wicket[0]] != wicket or last_on[wicket[1]] != wicket:
            kept.append(wicket)
            last_on[wicket[0]] = wicket
            last_on[wicket[1]] = wicket
    return (net[0], tuple(kept))
