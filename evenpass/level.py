"""Counts that are as even as whole numbers can be."""

from evenpass.order import falls


def is_level(counts):
    # Of no counts at all there is no first one to look at.
    return falls(counts) and (not counts or counts[0] - counts[-1] <= 1)


def level_counts(wide, total):
    # // rounds down, so the other sign within and around it rounds up.
    return [-((lane - total) // wide) for lane in range(wide)]
