"""Nets that are built by a rule, of each number of lanes that it is for."""

from evenpass.errors import NoNet
from evenpass.nets import MOST_LANES, is_whole, net_of

HALVED_WIDES = (1, 2, 4, 8)


def refuse_unless_halved(wide):
    if not is_whole(wide) or wide not in HALVED_WIDES:
        raise NoNet("no net of so many lanes is built so")


def in_both_halves(wickets, half):
    return list(wickets) + [(first + half, second + half) for first, second in wickets]


def across(wide):
    return [(lane, wide - 1 - lane) for lane in range(wide // 2)]


def by_falling_gaps(wide):
    wickets = []
    gap = wide // 4
    while gap > 0:
        wickets.extend([(lane, lane + gap) for lane in range(wide) if lane // gap % 2 == 0])
        gap //= 2
    return wickets


def folded(wide):
    refuse_unless_halved(wide)
    if wide == 1:
        return (net_of(1, ()), ("one",))
    half = wide // 2
    inner = folded(half)
    wickets = in_both_halves(inner[0][1], half)
    paper = ("halves", len(wickets), tuple(range(half)), tuple(range(half, wide)), inner[1], inner[1])
    return (net_of(wide, wickets + across(wide) + by_falling_gaps(wide)), paper)


def block(wide):
    if wide == 1:
        return []
    half = wide // 2
    return across(wide) + in_both_halves(block(half), half)


def rounds(wide):
    refuse_unless_halved(wide)
    wickets = []
    left = wide
    while left > 1:
        wickets.extend(block(wide))
        left //= 2
    return net_of(wide, wickets)


def brick(wide):
    if not is_whole(wide) or not 1 <= wide <= MOST_LANES:
        raise NoNet("no net has so many lanes")
    wickets = []
    for row in range(wide):
        wickets.extend([(lane, lane + 1) for lane in range(row % 2, wide - 1, 2)])
    return net_of(wide, wickets)
