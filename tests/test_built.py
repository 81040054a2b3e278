"""Point 14: folded, rounds and brick."""

import itertools
import random
import unittest

from evenpass.built import brick, folded, rounds
from evenpass.errors import NoNet, TooMany
from evenpass.nets import is_net
from evenpass.papers import shows
from evenpass.verdict import levels
from tests.samples import NO_NUMBERS, SIXTY, by_the_words
from tests.test_level import level_by_the_words

FOLDED_FOUR = ((0, 1), (2, 3), (0, 3), (1, 2), (0, 1), (2, 3))
FOLDED_EIGHT = FOLDED_FOUR + ((4, 5), (6, 7), (4, 7), (5, 6), (4, 5), (6, 7)) + (
    (0, 7), (1, 6), (2, 5), (3, 4), (0, 2), (1, 3), (4, 6), (5, 7), (0, 1), (2, 3), (4, 5), (6, 7))
PAPER_TWO = ("halves", 0, (0,), (1,), ("one",), ("one",))
PAPER_FOUR = ("halves", 2, (0, 1), (2, 3), PAPER_TWO, PAPER_TWO)
PAPER_EIGHT = ("halves", 12, (0, 1, 2, 3), (4, 5, 6, 7), PAPER_FOUR, PAPER_FOUR)
BLOCK_FOUR = ((0, 3), (1, 2), (0, 1), (2, 3))
BLOCK_EIGHT = ((0, 7), (1, 6), (2, 5), (3, 4)) + BLOCK_FOUR + ((4, 7), (5, 6), (4, 5), (6, 7))

FOLDED = {
    1: ((1, ()), ("one",)),
    2: ((2, ((0, 1),)), PAPER_TWO),
    4: ((4, FOLDED_FOUR), PAPER_FOUR),
    8: ((8, FOLDED_EIGHT), PAPER_EIGHT),
}
ROUNDS = {1: (1, ()), 2: (2, ((0, 1),)), 4: (4, BLOCK_FOUR * 2), 8: (8, BLOCK_EIGHT * 3)}
BRICK = {
    1: (),
    2: ((0, 1),),
    3: ((0, 1), (1, 2), (0, 1)),
    4: ((0, 1), (2, 3), (1, 2)) * 2,
    5: ((0, 1), (2, 3), (1, 2), (3, 4)) * 2 + ((0, 1), (2, 3)),
    6: ((0, 1), (2, 3), (4, 5), (1, 2), (3, 4)) * 3,
    7: ((0, 1), (2, 3), (4, 5), (1, 2), (3, 4), (5, 6)) * 3 + ((0, 1), (2, 3), (4, 5)),
    8: ((0, 1), (2, 3), (4, 5), (6, 7), (1, 2), (3, 4), (5, 6)) * 4,
}


class Built(unittest.TestCase):
    def test_folded(self):
        for wide, wanted in FOLDED.items():
            with self.subTest(wide=wide):
                told = folded(wide)
                self.assertEqual(told, wanted)
                self.assertIs(type(told), tuple)
                self.assertIs(is_net(told[0]), True)

    def test_the_paper_of_folded_shows_it(self):
        for wide in FOLDED:
            with self.subTest(wide=wide):
                self.assertIs(shows(*folded(wide)), True)

    def test_rounds(self):
        for wide, wanted in ROUNDS.items():
            with self.subTest(wide=wide):
                self.assertEqual(rounds(wide), wanted)
                self.assertIs(is_net(rounds(wide)), True)

    def test_brick(self):
        for wide, wanted in BRICK.items():
            with self.subTest(wide=wide):
                self.assertEqual(brick(wide), (wide, wanted))
                self.assertIs(is_net(brick(wide)), True)

    def test_folded_and_rounds_level(self):
        for wide in (1, 2, 4):
            with self.subTest(wide=wide):
                self.assertEqual(levels(folded(wide)[0]), ("levels",))
                self.assertEqual(levels(rounds(wide)), ("levels",))
        for net in (folded(8)[0], rounds(8)):
            with self.assertRaises(TooMany):
                levels(net)

    def test_folded_and_rounds_of_eight_lanes_level_drawn_counts(self):
        drawn = random.Random(14)
        rows = list(itertools.product((0, 1), repeat=8))
        for most in (2, 20, SIXTY):
            rows.extend([drawn.randint(-most, most) for lane in range(8)] for time in range(300))
        for net in (folded(8)[0], rounds(8)):
            for counts in rows:
                self.assertTrue(level_by_the_words(by_the_words(net, counts)[0]), (net, counts))

    def test_brick_levels_of_one_and_two_lanes_alone(self):
        for wide in BRICK:
            with self.subTest(wide=wide):
                self.assertEqual(levels(brick(wide))[0], "levels" if wide < 3 else "not")


class Refused(unittest.TestCase):
    def check_refused(self, call, wides):
        for place, wide in enumerate(wides):
            with self.subTest(call=call.__name__, place=place):
                with self.assertRaises(NoNet):
                    call(wide)

    def test_folded_and_rounds(self):
        for call in (folded, rounds):
            self.check_refused(call, (0, 3, 5, 6, 7, 9, 10, 12, 16, 32, -1, -2, -4, -8, 2 ** 60, SIXTY, -SIXTY))
            self.check_refused(call, NO_NUMBERS)

    def test_brick(self):
        self.check_refused(brick, (0, 9, 10, 16, -1, -8, SIXTY, -SIXTY))
        self.check_refused(brick, NO_NUMBERS)
