"""Point 21: nets as they are written, and texts that are none."""

import random
import unittest

from evenpass.built import brick, folded, rounds
from evenpass.errors import NetError, NoText
from evenpass.nets import is_net
from evenpass.texts import read_net, show_net
from tests.samples import (
    LEVELLER, LINE, NO_NUMBERS, TWISTED, drawn_net, great_nets, small_nets)

FORTY = (2, ((0, 1), (1, 0)) * 20)

WRITTEN = (
    ((1, ()), "1:"), ((8, ()), "8:"), ((2, ((0, 1),)), "2: 0-1"), ((2, ((1, 0),)), "2: 1-0"),
    (LINE, "4: 0-1 1-2 2-3"), ((4, ((0, 3), (1, 2), (0, 1), (2, 3))), "4: 0-3 1-2 0-1 2-3"),
    (TWISTED, "8: 5-4 0-1 6-7 1-2 4-6 2-0 3-7 2-1 5-4 7-3"), (FORTY, "2:" + " 0-1 1-0" * 20))

BLANKS = (
    " 4: 0-1", "4: 0-1 ", "4:  0-1", "4: 0-1  1-2", "4 : 0-1", "4:0-1", " 4:", "4: ", "4:  ", "4: 0 -1",
    "4: 0- 1", "4: 0 - 1", "4: 0-11-2", "4 0-1", "4", " ", "", "4:\t0-1", "4: 0-1\n", "\n4: 0-1",
    "4:\n0-1", "4: 0-1\t1-2")

NUMBERS = (
    "04: 0-1", "4: 00-1", "4: 0-01", "4: 01-0", "+4: 0-1", "4: +0-1", "4: 0-+1", "-4: 0-1", "4: -0-1",
    "4: 0--1", "4: -1-0", "4: --1", "4: 0-1.0", "4.0: 0-1", "4: 0x0-1", "4: 1_0-1", "four: 0-1", "4: a-b",
    "4: O-1", "4: 0-l", "4: 0-1e0", "00:", "01:", "-1:", "-0:", "+1:", "1.:", "x:")

LANES = (
    "4: 0-4", "4: 4-0", "4: 0-8", "4: 0-10", "4: 10-0", "1: 0-1", "1: 0-0", "2: 0-2", "2: 0-1 1-2",
    "4: 0-0", "4: 3-3", "4: 0-1 2-2", "8: 0-8", "8: 7-7", "4: 0-" + "9" * 60, "4: " + "9" * 900 + "-1")

WIDES = (
    "0:", "9:", "10:", "16:", "0: 0-1", "9: 0-1", "9: 0-8", "9" * 60 + ":", "9" * 61 + ": 0-1",
    "1" + "0" * 900 + ":")

COLONS = (
    "4 0-1", "4; 0-1", "4:: 0-1", "4: : 0-1", "4: 0-1:", ":4: 0-1", "4: 0:1", "4: 0-1 :", ":", "::",
    ": 0-1", "4: 0-1 4: 0-1")

WICKETS = (
    "4: 0", "4: 01", "4: 0-", "4: -1", "4: -", "4: 0-1-2", "4: 0-1-", "4: 0,1", "4: 0/1", "4: (0, 1)",
    "4: 0-1, 1-2", "4: 0-1;", "4: 0~1", "4: 0-1 x", "4: 0-1 2", "x4: 0-1", "4: x 0-1", "(4, ((0, 1),))",
    "net", "~", "4: 0=1", "4: [0-1]")

# Signs that Python's own int takes for figures, or that look like some.
OTHER_SIGNS = (
    "\u0664: 0-1", "4: \u0660-1", "4: 0-\u0661", "\u00b2:", "4: 0-\u00b9", "\uff14:", "4: 0\u20131",
    "4:\u00a00-1", "\u2463:", "4: 0-\u0967", "4\uff1a 0-1")


class TextCase(unittest.TestCase):
    def check_refused(self, thing):
        with self.assertRaises(NetError) as caught:
            read_net(thing)
        self.assertIs(type(caught.exception), NoText)

    def check_both_ways(self, net, text):
        self.assertEqual(show_net(net), text)
        self.assertIs(type(show_net(net)), str)
        told = read_net(text)
        self.assertEqual(told, net)
        self.assertTrue(is_net(told))
        self.assertEqual({type(thing) for thing in (told, told[1]) + told[1]}, {tuple})
        self.assertEqual({type(number) for number in (told[0],) + sum(told[1], ())}, {int})


class Written(TextCase):
    def test_some_nets(self):
        for net, text in WRITTEN:
            with self.subTest(text=text):
                self.check_both_ways(net, text)

    def test_each_wide_without_wickets_and_with_forty(self):
        for wide in range(1, 9):
            self.check_both_ways((wide, ()), str(wide) + ":")
            if wide > 1:
                last = wide - 1
                text = f"{wide}:" + f" 0-{last} {last}-0" * 20
                self.check_both_ways((wide, ((0, last), (last, 0)) * 20), text)

    def test_read_behind_written_is_the_net(self):
        drawn = random.Random(21)
        nets = small_nets() + great_nets() + [brick(8), rounds(8), folded(8)[0], LEVELLER]
        for net in nets + [drawn_net(drawn, drawn.randint(1, 8), 40) for time in range(100)]:
            self.assertEqual(read_net(show_net(net)), net)

    def test_unlike_nets_have_unlike_texts(self):
        nets = small_nets()
        self.assertEqual(len({show_net(net) for net in nets}), len(set(nets)))


class Refused(TextCase):
    def test_blanks(self):
        for text in BLANKS:
            with self.subTest(text=text):
                self.check_refused(text)

    def test_numbers(self):
        for text in NUMBERS:
            with self.subTest(text=text):
                self.check_refused(text)

    def test_lanes(self):
        for text in LANES:
            with self.subTest(text=text[:20]):
                self.check_refused(text)

    def test_wides(self):
        for text in WIDES:
            with self.subTest(text=text[:20]):
                self.check_refused(text)

    def test_colons(self):
        for text in COLONS:
            with self.subTest(text=text):
                self.check_refused(text)

    def test_wickets(self):
        for text in WICKETS:
            with self.subTest(text=text):
                self.check_refused(text)

    def test_forty_one_wickets(self):
        self.assertEqual(read_net("2:" + " 0-1" * 40), (2, ((0, 1),) * 40))
        self.check_refused("2:" + " 0-1" * 41)
        self.check_refused("8:" + " 0-7" * 200)

    def test_other_signs(self):
        for text in OTHER_SIGNS:
            with self.subTest(text=ascii(text)):
                self.check_refused(text)

    def test_numbers_beyond_what_python_reads(self):
        for text in ("9" * 9000 + ":", "4: 0-" + "9" * 9000, "4: " + "0" * 9000 + "-1"):
            self.check_refused(text)

    def test_what_is_no_text(self):
        things = [thing for thing in NO_NUMBERS if not isinstance(thing, str)]
        for thing in things + [4, 0, -1, b"4: 0-1", ["4: 0-1"], ("4: 0-1",), LINE, bytearray(b"1:"), str]:
            with self.subTest(kind=type(thing).__name__):
                self.check_refused(thing)

    def test_each_text_with_one_sign_more_less_or_another(self):
        for net, text in WRITTEN[:6]:
            for place in range(len(text) + 1):
                for sign in "0 -:+9a~":
                    self.check_read_or_refused(text[:place] + sign + text[place:])
                    self.check_read_or_refused(text[:place] + sign + text[place + 1:])
                self.check_read_or_refused(text[:place] + text[place + 1:])

    def check_read_or_refused(self, text):
        try:
            told = read_net(text)
        except NoText:
            self.assertIsNone(by_the_words(text), text)
        else:
            self.assertEqual(told, by_the_words(text))


def by_the_words(text):
    """The net that is written so, found by writing it, or None."""
    lanes = [int(sign) for sign in text if sign in "0123456789"]
    if not lanes or len(lanes) % 2 == 0:
        return None
    net = (lanes[0], tuple(zip(lanes[1::2], lanes[2::2])))
    again = str(net[0]) + ":"
    for first, second in net[1]:
        again += " " + str(first) + "-" + str(second)
    return net if again == text and is_net(net) else None
