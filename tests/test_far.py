"""Points 16 and 17: the bound and the spread."""

import fractions
import itertools
import math
import random
import unittest

from evenpass.built import brick, folded, rounds
from evenpass.errors import TooMany
from evenpass.far import bound, spread
from evenpass.verdict import levels
from tests.samples import LEVELLER, LINE, SIXTY, TWISTED, by_the_words, great_nets, layered_four, small_nets
from tests.test_depths import layers_by_the_words
from tests.test_shares import tilts_by_the_words, uneven_by_the_words
from tests.test_verdict import EIGHT, NARROW, doublings

ONE = (2, ((0, 1),))


def bound_by_the_words(net):
    if uneven_by_the_words(net) is not None:
        return None
    rows = tilts_by_the_words(net)
    found = []
    for j, k in itertools.product(range(net[0]), repeat=2):
        found.append(sum(row[j] - row[k] for row in rows if row[j] > row[k]))
    depth = max(layers_by_the_words(net), default=0)
    return fractions.Fraction(max(found)) / (2 * 2 ** depth)


def gap(net, counts):
    exits = by_the_words(net, counts)[0]
    return max(exits) - min(exits)


def even_nets():
    some = [net for net in small_nets() + great_nets() + layered_four(2) if uneven_by_the_words(net) is None]
    return some + layered_four(3)[::29] + [LEVELLER, NARROW, EIGHT, folded(8)[0], rounds(4), rounds(8)]


class Bound(unittest.TestCase):
    def check_told(self, net, wanted):
        told = bound(net)
        self.assertEqual(told, wanted)
        self.assertEqual([type(told)] + [type(number) for number in told], [tuple, int, int])

    def test_uneven_nets(self):
        for net in ((2, ()), (8, ()), LINE, TWISTED, brick(3), brick(8), (8, EIGHT[1][:-1])):
            with self.subTest(net=net):
                self.assertIsNone(bound(net))

    def test_one_lane(self):
        self.check_told((1, ()), (0, 1))

    def test_two_lanes(self):
        self.check_told(ONE, (1, 1))
        self.check_told((2, ((1, 0),)), (1, 1))
        self.check_told((2, ((1, 0), (0, 1))), (1, 1))

    def test_four_lanes(self):
        self.check_told(LEVELLER, (2, 1))
        self.check_told((4, ((0, 1), (2, 3), (0, 2), (1, 3))), (2, 1))
        self.check_told(NARROW, (2, 1))

    def test_the_words_in_lowest_terms(self):
        for net in even_nets():
            wanted = bound_by_the_words(net)
            if wanted is None:
                self.assertIsNone(bound(net))
            else:
                self.check_told(net, (wanted.numerator, wanted.denominator))
                self.assertEqual(math.gcd(*bound(net)), 1)
        self.assertTrue(any(bound(net) is not None and bound(net)[1] > 1 for net in even_nets()))

    def test_forty_wickets(self):
        self.check_told((2, ((0, 1),) * 40), (1, 1))
        self.check_told((4, LEVELLER[1] * 6), (2, 1))
        self.check_told((4, (LEVELLER[1] * 7)[:40]), (3, 2))

    def test_no_two_exits_differ_by_more(self):
        drawn = random.Random(16)
        for net in even_nets():
            told = bound(net)
            for most in (1, 8, SIXTY):
                for time in range(12):
                    counts = [drawn.randint(-most, most) for lane in range(net[0])]
                    if told is not None:
                        self.assertLessEqual(gap(net, counts) * told[1], told[0], (net, counts))


class Spread(unittest.TestCase):
    def check_told(self, net, number):
        told = spread(net)
        self.assertIs(type(told), tuple)
        self.assertEqual((len(told), told[:2]), (3, ("spread", number)), net)
        counts = told[2]
        self.assertEqual((type(counts), len(counts), type(told[1])), (list, net[0], int))
        self.assertEqual({type(count) for count in counts}, {int})
        self.assertEqual(gap(net, counts), number, net)

    def check_refused(self, net):
        with self.assertRaises(TooMany):
            spread(net)

    def test_uneven_nets(self):
        self.assertEqual(spread((2, ())), ("uneven", 0, 0, 1))
        self.assertEqual(spread((8, ((0, 1), (0, 2), (1, 3)))), ("uneven", 0, 0, 4))
        self.assertEqual(spread((4, ((0, 1), (0, 2), (1, 3), (2, 0)))), ("uneven", 2, 0, 1))
        for net in small_nets() + great_nets():
            unlike = uneven_by_the_words(net)
            if unlike is not None:
                self.assertEqual(spread(net), ("uneven",) + unlike)
                self.assertEqual(type(spread(net)), tuple)

    def test_one_lane(self):
        self.check_told((1, ()), 0)

    def test_nets_that_level(self):
        for net in (ONE, (2, ((0, 1),) * 10), LEVELLER, rounds(4)):
            with self.subTest(net=net):
                self.check_told(net, 1)

    def test_nets_that_don_t(self):
        self.check_told((2, ((1, 0),)), 1)
        self.check_told((4, ((0, 1), (2, 3), (0, 2), (1, 3))), 2)
        self.check_told((4, LEVELLER[1] + ((1, 0), (3, 2))), 1)
        self.check_told(NARROW, 2)

    def test_ten_and_eleven(self):
        self.check_told((2, ((1, 0),) * 10), 1)
        self.check_refused((2, ((1, 0),) * 11))
        self.check_told((4, LEVELLER[1] + ((0, 1), (2, 3)) * 2), 1)
        self.check_refused((4, LEVELLER[1] + ((0, 1), (2, 3)) * 3))
        self.check_refused((4, NARROW[1] + ((0, 1), (2, 3))))
        self.check_refused(EIGHT)
        self.check_refused(folded(8)[0])

    def test_the_greatest_of_all_small_counts(self):
        rows = [row + (0,) * 4 for row in itertools.product(range(4), repeat=4)]
        for net in layered_four(2)[::5] + layered_four(3)[::61] + [NARROW, ONE]:
            if uneven_by_the_words(net) is None:
                self.check_told(net, max(gap(net, row[:net[0]]) for row in rows))

    def test_no_drawn_counts_differ_by_more(self):
        drawn = random.Random(17)
        for net in even_nets():
            if uneven_by_the_words(net) is not None or doublings(net) > 10:
                continue
            told = spread(net)
            self.check_told(net, told[1])
            for most in (1, 8, SIXTY):
                for time in range(12):
                    counts = [drawn.randint(-most, most) for lane in range(net[0])]
                    self.assertLessEqual(gap(net, counts), told[1], (net, counts))
            self.assertLessEqual(told[1] * bound(net)[1], bound(net)[0])

    def test_a_net_levels_only_where_its_spread_is_0_or_1(self):
        for net in layered_four(2) + layered_four(3):
            told = spread(net)
            if levels(net) == ("levels",):
                self.assertIn(told[:2], (("spread", 0), ("spread", 1)))
