"""Whether a net levels."""

from evenpass.counts import exits
from evenpass.depths import depth_power
from evenpass.level import is_level
from evenpass.shares import all_on_one, uneven
from evenpass.trials import trials


def levels(net):
    unlike = uneven(net)
    if unlike is not None:
        # Two shares differ by 1 at least, so twice as many come out with a gap of 2 at least.
        return ("not", all_on_one(net[0], unlike[0], 2 * depth_power(net)))
    for counts in trials(net):
        if not is_level(exits(net, counts)):
            return ("not", counts)
    return ("levels",)
