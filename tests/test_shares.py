"""Point 7: shares, tilts and uneven nets."""

import fractions
import itertools
import random
import unittest

from evenpass.counts import exits, odd_ones
from evenpass.depths import depth
from evenpass.shares import shares, tilts, uneven
from tests.samples import LEVELLER, LINE, SIXTY, TWISTED, great_nets, layered_four, small_nets

ONE = (2, ((0, 1),))


def parts(net, lane, start):
    """What of 1 on the lane comes to each exit by the wickets from start on, halved without rounding."""
    now = [fractions.Fraction(0)] * net[0]
    now[lane] = fractions.Fraction(1)
    for first, second in net[1][start:]:
        now[first] = now[second] = (now[first] + now[second]) / 2
    return now


def shares_by_the_words(net):
    return [[2 ** depth(net) * part for part in parts(net, lane, 0)] for lane in range(net[0])]


def tilts_by_the_words(net):
    found = []
    for number, (first, second) in enumerate(net[1]):
        more = parts(net, first, number + 1)
        less = parts(net, second, number + 1)
        found.append([2 ** depth(net) * (a - b) for a, b in zip(more, less)])
    return found


def uneven_by_the_words(net):
    told = shares_by_the_words(net)
    for i in range(net[0]):
        for j, k in itertools.combinations(range(net[0]), 2):
            if told[i][j] != told[i][k]:
                return (i, j, k)
    return None


class SharesCase(unittest.TestCase):
    def check_rows(self, told, wanted):
        self.assertEqual(told, wanted)
        self.assertIs(type(told), list)
        for row in told:
            self.assertEqual({type(row)} | {type(number) for number in row}, {list, int})

    def check_net(self, net):
        self.check_rows(shares(net), shares_by_the_words(net))
        self.check_rows(tilts(net), tilts_by_the_words(net))
        self.assertEqual(uneven(net), uneven_by_the_words(net), net)

    def check_sums(self, net):
        self.assertEqual([sum(row) for row in shares(net)], [2 ** depth(net)] * net[0])
        self.assertEqual([sum(row) for row in tilts(net)], [0] * len(net[1]))

    def check_exits(self, net, counts):
        told = shares(net)
        rows = [tilts(net)[number] for number in odd_ones(net, counts)]
        wanted = []
        for j in range(net[0]):
            straight = sum(told[i][j] * counts[i] for i in range(net[0]))
            wanted.append(2 * straight + sum(row[j] for row in rows))
        self.assertEqual([2 * 2 ** depth(net) * count for count in exits(net, counts)], wanted, (net, counts))


class Shares(SharesCase):
    def test_without_wickets(self):
        self.check_rows(shares((1, ())), [[1]])
        self.check_rows(shares((3, ())), [[1, 0, 0], [0, 1, 0], [0, 0, 1]])
        for wide in range(1, 9):
            with self.subTest(wide=wide):
                self.check_net((wide, ()))
                self.assertEqual(tilts((wide, ())), [])

    def test_one_wicket(self):
        self.check_rows(shares(ONE), [[1, 1], [1, 1]])
        self.check_rows(shares((3, ((2, 0),))), [[1, 0, 1], [0, 2, 0], [1, 0, 1]])

    def test_along_the_lanes(self):
        self.check_rows(shares(LINE), [[4, 2, 1, 1], [4, 2, 1, 1], [0, 4, 2, 2], [0, 0, 4, 4]])

    def test_a_leveller(self):
        self.check_rows(shares(LEVELLER), [[2, 2, 2, 2]] * 4)

    def test_forty_wickets_one_behind_the_other(self):
        net = (2, ((0, 1),) * 40)
        self.check_rows(shares(net), [[2 ** 39, 2 ** 39]] * 2)
        self.check_net(net)


class Tilts(SharesCase):
    def test_one_wicket(self):
        self.check_rows(tilts(ONE), [[2, -2]])
        self.check_rows(tilts((2, ((1, 0),))), [[-2, 2]])

    def test_the_last_wicket_tilts_by_2_to_the_depth(self):
        self.check_rows(tilts(LINE)[-1:], [[0, 0, 8, -8]])
        self.check_rows(tilts(LEVELLER)[-1:], [[0, 0, 8, -8]])
        for net in great_nets():
            first, second = net[1][-1]
            wanted = [0] * net[0]
            wanted[first] = 2 ** depth(net)
            wanted[second] = -2 ** depth(net)
            self.assertEqual(tilts(net)[-1], wanted)

    def test_along_the_lanes(self):
        self.check_rows(tilts(LINE), [[8, -4, -2, -2], [0, 8, -4, -4], [0, 0, 8, -8]])

    def test_a_wicket_with_the_same_one_behind_it_has_no_tilt(self):
        self.check_rows(tilts((2, ((0, 1), (0, 1)))), [[0, 0], [4, -4]])

    def test_a_leveller(self):
        self.check_rows(tilts(LEVELLER), [
            [0, 0, 0, 0], [0, 0, 0, 0], [4, 4, -4, -4], [4, 4, -4, -4], [8, -8, 0, 0], [0, 0, 8, -8]])


class Uneven(SharesCase):
    def check_told(self, net, wanted):
        told = uneven(net)
        self.assertEqual(told, wanted)
        self.assertEqual([type(lane) for lane in told or ()], [int] * len(told or ()))
        self.assertIn(type(told), (tuple, type(None)))

    def test_even_nets(self):
        for net in ((1, ()), ONE, (2, ((1, 0),) * 40), LEVELLER, (4, ((0, 1), (2, 3), (0, 2), (1, 3)))):
            with self.subTest(net=net):
                self.check_told(net, None)

    def test_without_wickets(self):
        self.check_told((2, ()), (0, 0, 1))
        self.check_told((8, ()), (0, 0, 1))

    def test_the_first_lane_with_unlike_shares(self):
        self.check_told((2, ((0, 1),)), None)
        wickets = ((0, 1), (2, 3), (4, 5), (6, 7), (0, 2), (1, 3), (0, 4), (1, 5), (2, 6), (3, 7))
        self.check_told((8, wickets), (4, 0, 2))

    def test_the_first_two_lanes_of_unlike_shares(self):
        self.check_told(LINE, (0, 0, 1))
        self.check_told((3, ((0, 1),)), (0, 0, 2))
        self.check_told((4, ((0, 1), (0, 2), (1, 3), (2, 0))), (2, 0, 1))
        self.check_told((4, ((0, 1), (2, 3))), (0, 0, 2))
        self.check_told((8, ((0, 1), (0, 2), (1, 3))), (0, 0, 4))

    def test_three_five_six_and_seven_lanes(self):
        for net in great_nets():
            if net[0] in (3, 5, 6, 7):
                self.assertIsNotNone(uneven(net), net)
        for wide in (3, 5, 6, 7):
            self.check_told((wide, ()), (0, 0, 1))
        for net in small_nets():
            if net[0] == 3:
                self.assertIsNotNone(uneven(net), net)


class Everywhere(SharesCase):
    def nets(self):
        return small_nets() + great_nets() + layered_four(2)

    def test_the_words(self):
        for net in self.nets():
            self.check_net(net)

    def test_the_sums(self):
        for net in self.nets():
            self.check_sums(net)

    def test_twice_2_to_the_depth_times_an_exit(self):
        drawn = random.Random(7)
        for net in great_nets() + layered_four(2) + [ONE, (1, ()), (8, ()), (3, ((2, 1), (0, 2)))]:
            for most in (1, 3, 40, SIXTY):
                self.check_exits(net, [drawn.randint(-most, most) for lane in range(net[0])])
            self.check_exits(net, [SIXTY, -SIXTY, -SIXTY, SIXTY - 1, 1, -1, 0, SIXTY][:net[0]])

    def test_twice_2_to_the_depth_times_an_exit_of_all_small_counts(self):
        for counts in itertools.product(range(-2, 3), repeat=4):
            self.check_exits(LINE, list(counts))
            self.check_exits(LEVELLER, list(counts))

    def test_more_lanes_and_wickets_than_a_net_has(self):
        self.check_net((9, TWISTED[1] * 5))
        self.check_sums((9, TWISTED[1] * 5))
