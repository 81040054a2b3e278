"""Point 11: level counts."""

import itertools
import unittest

from evenpass.level import is_level, level_counts
from tests.samples import SIXTY


def level_by_the_words(counts):
    falls = all(counts[i + 1] <= counts[i] for i in range(len(counts) - 1))
    return falls and counts[0] <= counts[-1] + 1


class IsLevel(unittest.TestCase):
    def check_all(self, wanted, rows):
        for counts in rows:
            with self.subTest(counts=counts):
                self.assertIs(is_level(counts), wanted)

    def test_one_lane(self):
        self.check_all(True, ([0], [1], [-1], [SIXTY], [-SIXTY]))

    def test_level_counts(self):
        self.check_all(True, (
            [0, 0], [1, 0], [0, -1], [-1, -1], [3, 3, 3], [4, 3, 3], [4, 4, 3], [0, -1, -1, -1], [0, 0, 0, -1],
            [1, 0, 0, 0, 0, 0, 0, 0], [1, 1, 1, 1, 1, 1, 1, 0], [2] * 8, [-5, -5, -5, -6, -6, -6, -6, -6]))

    def test_one_above_the_one_ahead_of_it(self):
        self.check_all(False, (
            [0, 1], [-1, 0], [-2, -1], [1, 0, 1], [0, 1, 0], [0, 0, 1], [1, 0, 1, 0], [0, 0, 0, 0, 0, 0, 0, 1],
            [1, 1, 1, 1, 1, 1, 0, 1], [0, 1, 1, 1, 1, 1, 1, 1]))

    def test_falling_by_more_than_1(self):
        self.check_all(False, (
            [2, 0], [1, -1], [2, 1, 0], [3, 2, 2, 1], [0, -2], [2, 2, 2, 2, 1, 1, 1, 0], [5, 4, 3, 2, 1, 0, -1, -2]))

    def test_sixty_figures(self):
        self.check_all(True, ([SIXTY, SIXTY - 1], [SIXTY, SIXTY, SIXTY], [-SIXTY, -SIXTY - 1]))
        self.check_all(False, ([SIXTY - 1, SIXTY], [SIXTY, SIXTY - 2], [SIXTY, -SIXTY], [-SIXTY - 1, -SIXTY]))

    def test_level_but_for_one_walker(self):
        for wide in range(2, 9):
            for total in range(-9, 10):
                counts = level_counts(wide, total)
                for lane in range(wide):
                    for change in (-1, 1):
                        other = list(counts)
                        other[lane] += change
                        self.assertIs(is_level(other), level_by_the_words(other), other)
                        self.assertIs(is_level(other), other == level_counts(wide, total + change), other)

    def test_all_small_counts(self):
        for wide, most in ((1, 5), (2, 5), (3, 3), (4, 2), (5, 2)):
            for counts in itertools.product(range(-most, most + 1), repeat=wide):
                self.assertIs(is_level(list(counts)), level_by_the_words(counts), counts)

    def test_more_and_fewer_lanes_than_a_net_has(self):
        self.check_all(True, ([], [1] * 9 + [0] * 3))
        self.check_all(False, ([0] * 11 + [1], [2] + [1] * 10 + [0]))


class LevelCounts(unittest.TestCase):
    def check_told(self, wide, total, wanted):
        told = level_counts(wide, total)
        self.assertEqual(told, wanted)
        self.assertEqual({type(told)} | {type(count) for count in told}, {list, int})

    def test_one_lane(self):
        for total in (0, 1, -1, 7, -7, SIXTY, -SIXTY):
            with self.subTest(total=total):
                self.check_told(1, total, [total])

    def test_sums_from_0_on(self):
        self.check_told(4, 0, [0, 0, 0, 0])
        self.check_told(4, 1, [1, 0, 0, 0])
        self.check_told(4, 2, [1, 1, 0, 0])
        self.check_told(4, 3, [1, 1, 1, 0])
        self.check_told(4, 4, [1, 1, 1, 1])
        self.check_told(4, 5, [2, 1, 1, 1])
        self.check_told(3, 7, [3, 2, 2])
        self.check_told(8, 15, [2, 2, 2, 2, 2, 2, 2, 1])

    def test_sums_below_0(self):
        self.check_told(4, -1, [0, 0, 0, -1])
        self.check_told(4, -3, [0, -1, -1, -1])
        self.check_told(4, -4, [-1, -1, -1, -1])
        self.check_told(4, -5, [-1, -1, -1, -2])
        self.check_told(3, -7, [-2, -2, -3])
        self.check_told(8, -1, [0, 0, 0, 0, 0, 0, 0, -1])

    def test_sixty_figures(self):
        third = 3 * (10 ** 60 - 1) // 9
        self.check_told(3, SIXTY, [third] * 3)
        self.check_told(3, SIXTY - 1, [third, third, third - 1])
        self.check_told(3, -SIXTY - 1, [-third, -third, -third - 1])
        self.check_told(2, SIXTY, [5 * 10 ** 59, 5 * 10 ** 59 - 1])

    def test_the_one_level_list_with_that_sum(self):
        for wide in range(1, 9):
            for total in list(range(-40, 41)) + [SIXTY - 3, SIXTY, -SIXTY, 5 - SIXTY]:
                told = level_counts(wide, total)
                self.assertEqual((len(told), sum(told)), (wide, total))
                self.assertTrue(level_by_the_words(told), told)
                self.assertIs(is_level(told), True)

    def test_just_one_list_is_level(self):
        for wide in (1, 2, 3, 4):
            for counts in itertools.product(range(-2, 3), repeat=wide):
                self.assertIs(is_level(list(counts)), list(counts) == level_counts(wide, sum(counts)), counts)
