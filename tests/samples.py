"""Nets that several tests go through."""

import itertools

LINE = (4, ((0, 1), (1, 2), (2, 3)))
LEVELLER = (4, ((0, 1), (2, 3), (0, 3), (1, 2), (0, 1), (2, 3)))
# The last wicket of the greatest layer is not the last wicket, and dead ends lie beside the way to it.
TWISTED = (8, ((5, 4), (0, 1), (6, 7), (1, 2), (4, 6), (2, 0), (3, 7), (2, 1), (5, 4), (7, 3)))


def pairs(wide):
    return list(itertools.permutations(range(wide), 2))


def small_nets():
    nets = [(1, ()), (8, ())]
    for wide, most in ((2, 4), (3, 4), (4, 3)):
        for size in range(most + 1):
            for wickets in itertools.product(pairs(wide), repeat=size):
                nets.append((wide, wickets))
    return nets


def great_nets():
    nets = [LINE, LEVELLER, TWISTED]
    for wide in range(2, 9):
        choice = pairs(wide)
        for stride in range(1, 12):
            wickets = tuple(choice[(stride * number * number + 5 * number) % len(choice)] for number in range(40))
            nets.append((wide, wickets))
    return nets
