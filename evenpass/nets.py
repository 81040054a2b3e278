"""Nets: a tuple (wide, wickets), made of two things of whatever kind or refused."""

from evenpass.errors import NoNet

MOST_LANES = 8
MOST_WICKETS = 40


def is_whole(thing):
    # Python counts True and False among its ints, the document doesn't.
    return isinstance(thing, int) and not isinstance(thing, bool)


def is_lane(wide, thing):
    return is_whole(thing) and 0 <= thing < wide


def is_wicket(wide, thing):
    if not isinstance(thing, tuple) or len(thing) != 2:
        return False
    return is_lane(wide, thing[0]) and is_lane(wide, thing[1]) and thing[0] != thing[1]


def are_wickets(wide, things):
    return len(things) <= MOST_WICKETS and all([is_wicket(wide, thing) for thing in things])


def makes_net(wide, wickets):
    if not is_whole(wide) or not 1 <= wide <= MOST_LANES:
        return False
    return isinstance(wickets, (list, tuple)) and are_wickets(wide, wickets)


def net_of(wide, wickets):
    if not makes_net(wide, wickets):
        raise NoNet("no net can be made of these")
    return (wide, tuple([(wicket[0], wicket[1]) for wicket in wickets]))


def is_net(thing):
    if not isinstance(thing, tuple) or len(thing) != 2:
        return False
    # A list of wickets makes a net, but only a tuple of them stands in one.
    return isinstance(thing[1], tuple) and makes_net(thing[0], thing[1])
