"""Whether two nets do the same with all counts."""

from evenpass.counts import exits
from evenpass.depths import depth_power
from evenpass.errors import NoNet
from evenpass.shares import all_on_one
from evenpass.trials import common_trials


def one_lane_each(wide, power):
    return [all_on_one(wide, lane, power) for lane in range(wide)]


def first_that_parts(one, other, rows):
    for counts in rows:
        if exits(one, counts) != exits(other, counts):
            return counts
    return None


def parted(one, other):
    if one[0] != other[0]:
        raise NoNet("these nets have unlike numbers of lanes")
    # As many halve at each wicket of both nets without a remainder: the exits show whether the shares are like.
    power = max(depth_power(one), depth_power(other))
    by_shares = first_that_parts(one, other, one_lane_each(one[0], power))
    if by_shares is not None:
        return by_shares
    return first_that_parts(one, other, common_trials(one, other))
