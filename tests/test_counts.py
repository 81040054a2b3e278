"""Point 6: exits and odd ones."""

import itertools
import unittest

from evenpass.counts import exits, odd_ones
from tests.samples import LEVELLER, LINE, SIXTY, by_the_words, great_nets, small_nets

ONE = (2, ((0, 1),))


class CountsCase(unittest.TestCase):
    def check_net(self, net, counts):
        self.check_told(net, counts, *by_the_words(net, counts))

    def check_told(self, net, counts, wanted_exits, wanted_odd):
        told = exits(net, counts)
        self.assertEqual(told, wanted_exits, (net, counts))
        self.assertEqual({type(told)} | {type(count) for count in told}, {list, int})
        odd = odd_ones(net, counts)
        self.assertEqual(odd, wanted_odd, (net, counts))
        self.assertIs(type(odd), list)


class OneWicket(CountsCase):
    def test_even_numbers(self):
        for counts in ([4, 0], [0, 4], [2, 2], [3, 1], [-1, 5], [7, -3]):
            with self.subTest(counts=counts):
                self.check_told(ONE, counts, [2, 2], [])

    def test_odd_numbers(self):
        for counts in ([5, 0], [0, 5], [2, 3], [3, 2], [-1, 6], [8, -3]):
            with self.subTest(counts=counts):
                self.check_told(ONE, counts, [3, 2], [0])

    def test_the_first_lane_has_the_greater_half(self):
        self.check_told((2, ((1, 0),)), [5, 0], [2, 3], [0])
        self.check_told((2, ((1, 0),)), [-3, 0], [-2, -1], [0])

    def test_numbers_below_0(self):
        self.check_told(ONE, [-3, 0], [-1, -2], [0])
        self.check_told(ONE, [0, -3], [-1, -2], [0])
        self.check_told(ONE, [-1, -2], [-1, -2], [0])
        self.check_told(ONE, [-1, 0], [0, -1], [0])
        self.check_told(ONE, [-2, 0], [-1, -1], [])
        self.check_told(ONE, [-4, 0], [-2, -2], [])

    def test_0(self):
        self.check_told(ONE, [0, 0], [0, 0], [])
        self.check_told(ONE, [-7, 7], [0, 0], [])
        self.check_told(ONE, [1, 0], [1, 0], [0])

    def test_numbers_of_sixty_figures(self):
        half = 5 * 10 ** 59
        self.check_told(ONE, [SIXTY, 0], [half, half - 1], [0])
        self.check_told(ONE, [SIXTY, SIXTY], [SIXTY, SIXTY], [])
        self.check_told(ONE, [SIXTY, SIXTY - 1], [SIXTY, SIXTY - 1], [0])
        self.check_told(ONE, [-SIXTY, 0], [-half + 1, -half], [0])
        self.check_told(ONE, [-SIXTY, SIXTY], [0, 0], [])

    def test_other_lanes_stay_as_they_were(self):
        self.check_told((4, ((2, 0),)), [1, 7, 2, -9], [1, 7, 2, -9], [0])
        self.check_told((4, ((2, 0),)), [9, 7, 0, -9], [4, 7, 5, -9], [0])


class Nets(CountsCase):
    def test_without_wickets(self):
        for wide in range(1, 9):
            with self.subTest(wide=wide):
                counts = [SIXTY, -3, 0, 1, -SIXTY, 5, 2, -1][:wide]
                self.check_told((wide, ()), counts, counts, [])

    def test_wickets_in_their_order(self):
        self.check_told(LINE, [8, 0, 0, 0], [4, 2, 1, 1], [])
        self.check_told(LINE, [0, 0, 0, 8], [0, 0, 4, 4], [])
        self.check_told(LINE, [1, 0, 0, 1], [1, 0, 1, 0], [0, 2])

    def test_the_same_wicket_again(self):
        self.check_told((2, ((0, 1), (0, 1), (1, 0))), [3, 0], [1, 2], [0, 1, 2])

    def test_odd_ones_rise(self):
        self.check_told((6, ((4, 5), (2, 3), (0, 1))), [1, 0, 2, 0, 3, 0], [1, 0, 1, 1, 2, 1], [0, 2])
        self.check_told((2, ((0, 1),) * 40), [1, 0], [1, 0], list(range(40)))

    def test_a_leveller(self):
        self.check_told(LEVELLER, [5, 0, 0, 2], [2, 2, 2, 1], [0, 3, 5])
        self.check_told(LEVELLER, [-5, 0, 0, -2], [-1, -2, -2, -2], [0, 2, 4])

    def test_exits_handed_in_again(self):
        first = exits(LINE, [SIXTY, -SIXTY, SIXTY, SIXTY])
        self.check_net(LINE, first)

    def test_small_nets(self):
        for net in small_nets():
            for counts in ([0, 1, 2, 5, 0, 0, 0, 0], [-3, 0, 4, -7, 1, 2, 3, 4], [SIXTY, -SIXTY, 1, 0, 0, 0, 0, 9]):
                self.check_net(net, counts[:net[0]])

    def test_great_nets(self):
        for net in great_nets():
            for counts in ([9, 0, 0, 0, -1, 1, 6, 3], [-5, -4, -9, 0, 2, -3, -8, -1], [SIXTY] * 8):
                self.check_net(net, counts[:net[0]])

    def test_all_small_counts(self):
        for counts in itertools.product(range(-4, 5), repeat=3):
            self.check_net((3, ((0, 1), (2, 1), (0, 2))), list(counts))
