"""Counts that are as even as whole numbers can be."""


def is_level(counts):
    for ahead, count in zip(counts, counts[1:]):
        if count > ahead:
            return False
    # Of no counts at all there is no first one to look at.
    return not counts or counts[0] - counts[-1] <= 1


def level_counts(wide, total):
    # // rounds down, so the other sign within and around it rounds up.
    return [-((lane - total) // wide) for lane in range(wide)]
