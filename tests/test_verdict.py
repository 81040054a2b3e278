"""Point 12: which nets level."""

import itertools
import random
import unittest

from evenpass.depths import depth, layers
from evenpass.errors import TooMany
from evenpass.shares import uneven
from evenpass.verdict import levels
from tests.samples import LEVELLER, LINE, SIXTY, by_the_words, great_nets, layered_four, small_nets
from tests.test_level import level_by_the_words

# One wicket of layer 1, so three numbers to go through, and even nonetheless.
NARROW = (4, ((0, 2), (0, 1), (2, 3), (0, 2), (1, 3)))
EIGHT = (8, (
    (0, 1), (2, 3), (4, 5), (6, 7), (0, 2), (1, 3), (4, 6), (5, 7), (0, 4), (1, 5), (2, 6), (3, 7)))


def doublings(net):
    return depth(net) * (net[0] - layers(net).count(1))


class VerdictCase(unittest.TestCase):
    def check_not(self, net):
        told = levels(net)
        self.assertIs(type(told), tuple)
        self.assertEqual((len(told), told[0]), (2, "not"), net)
        counts = told[1]
        self.assertEqual((type(counts), len(counts)), (list, net[0]))
        self.assertEqual({type(count) for count in counts}, {int})
        self.assertFalse(level_by_the_words(by_the_words(net, counts)[0]), (net, counts))

    def check_levels(self, net):
        self.assertEqual(levels(net), ("levels",), net)
        self.assertIs(type(levels(net)), tuple)

    def check_refused(self, net):
        with self.assertRaises(TooMany):
            levels(net)


class Told(VerdictCase):
    def test_one_lane(self):
        self.check_levels((1, ()))

    def test_two_lanes(self):
        self.check_levels((2, ((0, 1),)))
        self.check_levels((2, ((1, 0), (0, 1))))
        self.check_not((2, ((1, 0),)))
        self.check_not((2, ((0, 1), (1, 0))))

    def test_four_lanes(self):
        self.check_levels(LEVELLER)
        self.check_not((4, ((0, 1), (2, 3), (0, 2), (1, 3))))
        self.check_not((4, ((0, 1), (2, 3), (0, 3), (1, 2))))
        self.check_not((4, ((0, 1), (2, 3), (0, 3), (1, 2), (0, 1), (3, 2))))
        self.check_not(NARROW)

    def test_uneven_nets(self):
        for net in [(2, ()), (8, ()), (3, ((0, 1), (1, 2), (0, 1))), (4, ((0, 1), (2, 3))), LINE]:
            with self.subTest(net=net):
                self.check_not(net)

    def test_uneven_nets_that_are_nearly_even(self):
        for wide, row in ((4, ((0, 1), (2, 3), (1, 2))), (3, ((0, 1), (1, 2))), (8, ((0, 1), (2, 3), (1, 2)))):
            for times in range(1, 40 // len(row) + 1):
                with self.subTest(wide=wide, times=times):
                    self.check_not((wide, row * times))

    def test_uneven_nets_whatever_the_depth(self):
        for net in great_nets():
            if uneven(net) is not None:
                self.check_not(net)
        self.check_not((3, ((0, 1), (1, 2)) * 20))
        self.check_not((8, ((0, 1),) * 40))


class Bound(VerdictCase):
    def test_ten_and_eleven(self):
        ten = (2, ((0, 1),) * 10)
        eleven = (2, ((0, 1),) * 11)
        self.assertEqual((doublings(ten), doublings(eleven)), (10, 11))
        self.check_levels(ten)
        self.check_refused(eleven)
        self.check_not((2, ((0, 1),) * 9 + ((1, 0),)))
        self.check_refused((2, ((0, 1),) * 10 + ((1, 0),)))
        self.check_refused((2, ((1, 0),) * 40))

    def test_four_lanes_with_two_wickets_of_layer_1(self):
        ten = (4, LEVELLER[1] + ((0, 1), (2, 3)) * 2)
        twelve = (4, LEVELLER[1] + ((0, 1), (2, 3)) * 3)
        self.assertEqual((doublings(ten), doublings(twelve)), (10, 12))
        self.check_levels(ten)
        self.check_refused(twelve)
        self.check_not((4, ten[1][:-1] + ((3, 2),)))

    def test_four_lanes_with_one_wicket_of_layer_1(self):
        self.assertEqual(doublings(NARROW), 9)
        self.check_not(NARROW)
        # Level where all come in by the wicket of layer 1, but not where some come in beside it.
        self.check_not((4, ((0, 2), (0, 1), (2, 3), (0, 3), (1, 2))))
        self.check_not((4, ((0, 2), (0, 3), (1, 2), (0, 1), (2, 3))))
        twelve = (4, NARROW[1] + ((0, 1), (2, 3)))
        self.assertEqual((uneven(twelve), doublings(twelve)), (None, 12))
        self.check_refused(twelve)

    def test_eight_lanes(self):
        self.assertEqual((uneven(EIGHT), doublings(EIGHT)), (None, 12))
        self.check_refused(EIGHT)
        self.check_not((8, EIGHT[1][:-1]))


class Everywhere(VerdictCase):
    def test_small_nets(self):
        for net in small_nets():
            rows = itertools.product(range(5), repeat=net[0]) if net[0] < 3 else []
            if uneven(net) is not None:
                self.check_not(net)
            elif all(level_by_the_words(by_the_words(net, row)[0]) for row in rows):
                self.check_levels(net)
            else:
                self.check_not(net)

    def test_four_lanes_in_two_and_three_layers(self):
        found = 0
        for net in layered_four(2) + layered_four(3):
            if levels(net) == ("levels",):
                found += 1
                self.check_against_counts(net)
            else:
                self.check_not(net)
        self.assertGreater(found, 0)

    def check_against_counts(self, net):
        drawn = random.Random(3)
        for most in (2, 9, SIXTY):
            for time in range(60):
                counts = [drawn.randint(-most, most) for lane in range(net[0])]
                self.assertTrue(level_by_the_words(by_the_words(net, counts)[0]), (net, counts))

    def test_all_counts_of_a_net_that_levels(self):
        for counts in itertools.product(range(8), repeat=4):
            self.assertTrue(level_by_the_words(by_the_words(LEVELLER, counts)[0]))
        self.check_levels(LEVELLER)
