"""Nets and things that several tests go through, and reckonings by the document's words."""

import itertools

SIXTY = 10 ** 60 - 1

LINE = (4, ((0, 1), (1, 2), (2, 3)))
LEVELLER = (4, ((0, 1), (2, 3), (0, 3), (1, 2), (0, 1), (2, 3)))
# The last wicket of the greatest layer is not the last wicket, and dead ends lie beside the way to it.
TWISTED = (8, ((5, 4), (0, 1), (6, 7), (1, 2), (4, 6), (2, 0), (3, 7), (2, 1), (5, 4), (7, 3)))


def pairs(wide):
    return list(itertools.permutations(range(wide), 2))


def small_nets():
    nets = [(1, ()), (8, ())]
    for wide, most in ((2, 4), (3, 4), (4, 3)):
        for size in range(most + 1):
            for wickets in itertools.product(pairs(wide), repeat=size):
                nets.append((wide, wickets))
    return nets


def great_nets():
    nets = [LINE, LEVELLER, TWISTED]
    for wide in range(2, 9):
        choice = pairs(wide)
        for stride in range(1, 12):
            wickets = tuple(choice[(stride * number * number + 5 * number) % len(choice)] for number in range(40))
            nets.append((wide, wickets))
    return nets


def half_down(number):
    """Half of a number, rounded down, without Python's own rounding below 0."""
    half = abs(number) // 2
    if number >= 0:
        return half
    return -half if number % 2 == 0 else -half - 1


def by_the_words(net, counts):
    now = list(counts)
    odd = []
    for number, (first, second) in enumerate(net[1]):
        both = now[first] + now[second]
        down = half_down(both)
        now[first], now[second] = both - down, down
        if abs(both) % 2 == 1:
            odd.append(number)
    return now, odd


class Grudging:
    """A thing that fails whatever it is asked."""

    def fail(self, *rest):
        raise RuntimeError("asked")

    __eq__ = __ne__ = __lt__ = __le__ = __gt__ = __ge__ = fail
    __len__ = __iter__ = __getitem__ = __bool__ = __contains__ = __index__ = __int__ = fail
    __hash__ = __repr__ = __str__ = fail


def within_itself():
    thing = []
    thing.append(thing)
    return thing


def deep_tuple(levels):
    thing = ()
    for level in range(levels):
        thing = (2, thing)
    return thing


def layered_four(layers):
    """All nets of four lanes with so many layers, each of two wickets."""
    layer = []
    for one, other in (((0, 1), (2, 3)), ((0, 2), (1, 3)), ((0, 3), (1, 2))):
        for first in (one, one[::-1]):
            for second in (other, other[::-1]):
                layer.append((first, second))
    return [(4, sum(wickets, ())) for wickets in itertools.product(layer, repeat=layers)]


# What is no whole number, of whatever kind.
NO_NUMBERS = (
    True, False, None, "", "0", "1", "a", 0.0, 1.0, float("nan"), 1j, b"0", [], [0], (), (0,), (0, 1), {}, {0: 1},
    set(), object(), int, len, range(3), Grudging(), within_itself(), deep_tuple(30))


def drawn_net(drawn, wide, most):
    """A net of so many lanes with at most so many wickets, drawn from a seeded source."""
    size = drawn.randint(0, most) if wide > 1 else 0
    return (wide, tuple(tuple(drawn.sample(range(wide), 2)) for number in range(size)))


def drawn_counts(drawn, wide, most):
    return [drawn.randint(-most, most) for lane in range(wide)]
