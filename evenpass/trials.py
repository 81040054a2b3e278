"""Rows that it does to go through, in the place of all there are."""

from evenpass.depths import depth, depth_power, layers
from evenpass.errors import TooMany

MOST_DOUBLINGS = 10


def longer_rows(rows, numbers):
    found = []
    for row in rows:
        for number in numbers:
            found.append(row + [number])
    return found


def rows_of(choices):
    rows = [[]]
    for numbers in choices:
        rows = longer_rows(rows, numbers)
    return rows


def second_lanes(net):
    return [wicket[1] for wicket, layer in zip(net[1], layers(net)) if layer == 1]


def trials(net):
    # In a net that isn't uneven 2 ** depth more on a lane are as many more at each exit,
    # and of two lanes that meet ahead of all else only the sum matters.
    seconds = second_lanes(net)
    if depth(net) * (net[0] - len(seconds)) > MOST_DOUBLINGS:
        raise TooMany("too many counts to go through")
    numbers = list(range(depth_power(net)))
    return rows_of([[0] if lane in seconds else numbers for lane in range(net[0])])
