"""Point 2: nothing that is handed in is changed, and what is told is the asker's own."""

import copy
import unittest

from evenpass.counts import exits, odd_ones
from evenpass.depths import depth, layers, longest
from evenpass.errors import NoNet
from evenpass.level import is_level, level_counts
from evenpass.nets import is_net, net_of
from evenpass.shares import shares, tilts, uneven
from evenpass.verdict import levels
from tests.samples import LEVELLER, LINE, TWISTED


def spoil(told):
    for thing in told:
        if isinstance(thing, (list, tuple)):
            spoil(thing)
    if isinstance(told, list):
        told.reverse()
        told.append("spoilt")
        told[0] = None


class HandedIn(unittest.TestCase):
    def check_unchanged(self, call, *handed):
        kept = copy.deepcopy(handed)
        first = call(*handed)
        self.assertEqual(handed, kept)
        self.assertEqual(call(*handed), first)
        self.assertEqual(handed, kept)

    def test_wickets_stay(self):
        self.check_unchanged(net_of, 4, [(0, 3), (2, 1), (0, 3)])
        self.check_unchanged(net_of, 4, [])

    def test_refused_wickets_stay_with_the_lists_within(self):
        inner = [0, 1]
        wickets = [(0, 1), inner, (2, [3, 4])]
        kept = copy.deepcopy(wickets)
        with self.assertRaises(NoNet):
            net_of(4, wickets)
        self.assertEqual(wickets, kept)
        self.assertIs(wickets[1], inner)

    def test_whatever_thing_stays(self):
        for thing in ([2, [[0, 1]]], (2, [(0, 1)]), (2, ([1, 0], {0: [1]})), {2: [(0, 1)]}):
            with self.subTest(thing=thing):
                self.check_unchanged(is_net, thing)

    def test_counts_stay(self):
        for call in (exits, odd_ones):
            for net in (LINE, LEVELLER, (4, ())):
                with self.subTest(call=call.__name__, net=net):
                    self.check_unchanged(call, net, [7, -2, 0, 3])

    def test_nets_stay(self):
        for call in (layers, depth, longest, shares, tilts, uneven, levels):
            with self.subTest(call=call.__name__):
                self.check_unchanged(call, TWISTED)
                self.check_unchanged(call, LEVELLER)

    def test_counts_that_may_be_level_stay(self):
        for counts in ([2, 1, 1], [0, 1], [3, 3, 1], [5]):
            with self.subTest(counts=counts):
                self.check_unchanged(is_level, counts)


class Told(unittest.TestCase):
    def check_own(self, call, *handed):
        first = call(*handed)
        kept = copy.deepcopy(first)
        spoil(first)
        again = call(*handed)
        self.assertEqual(again, kept)
        spoil(again)
        self.assertEqual(call(*handed), kept)

    def test_lists_of_depths(self):
        for net in (LINE, LEVELLER, TWISTED, (3, ())):
            for call in (layers, longest):
                with self.subTest(call=call.__name__, net=net):
                    self.check_own(call, net)
            self.assertEqual(depth(net), max(layers(net), default=0))

    def test_lists_of_counts(self):
        for net in (LINE, LEVELLER, (4, ())):
            for call in (exits, odd_ones):
                with self.subTest(call=call.__name__, net=net):
                    self.check_own(call, net, [7, -2, 0, 3])

    def test_lists_of_shares(self):
        for net in (LINE, LEVELLER, TWISTED, (3, ()), (2, ((0, 1),))):
            for call in (shares, tilts):
                with self.subTest(call=call.__name__, net=net):
                    self.check_own(call, net)

    def test_the_rows_within_a_list_are_not_the_same_one(self):
        for told in (shares(LEVELLER), tilts(LEVELLER)):
            told[0][0] = "spoilt"
            self.assertNotIn("spoilt", sum(told[1:], []))

    def test_level_counts(self):
        self.check_own(level_counts, 4, 7)
        self.check_own(level_counts, 1, -1)

    def test_counts_of_a_verdict(self):
        for net in (LINE, TWISTED, (2, ()), (2, ((1, 0),)), (4, LEVELLER[1] + ((1, 0), (3, 2)))):
            with self.subTest(net=net):
                self.check_own(levels, net)

    def test_exits_without_wickets_are_not_the_counts_themselves(self):
        counts = [1, 2, 3]
        told = exits((3, ()), counts)
        self.assertIsNot(told, counts)
        counts[0] = 100
        self.assertEqual(told, [1, 2, 3])

    def test_later_questions_leave_an_answer_as_it_was(self):
        told = [layers(LINE), longest(LINE), exits(LINE, [5, 0, 0, 0]), odd_ones(LINE, [5, 0, 0, 0])]
        kept = copy.deepcopy(told)
        for net in (LINE, LEVELLER):
            layers(net), longest(net), exits(net, [1, 1, 9, -4]), odd_ones(net, [1, 1, 9, -4])
        self.assertEqual(told, kept)


class ChangedBehindACall(unittest.TestCase):
    def test_wickets(self):
        wickets = [(0, 1), (1, 2)]
        net = net_of(3, wickets)
        wickets.append((0, 2))
        wickets[0] = None
        self.assertEqual(net, (3, ((0, 1), (1, 2))))
        self.assertEqual(layers(net), [1, 2])
        self.assertEqual(net_of(3, [(0, 1), (1, 2)]), net)

    def test_wickets_asked_of_again(self):
        wickets = [(0, 1)]
        net_of(2, wickets)
        wickets[0] = [0, 1]
        with self.assertRaises(NoNet):
            net_of(2, wickets)
        wickets[0] = (1, 0)
        self.assertEqual(net_of(2, wickets), (2, ((1, 0),)))

    def test_counts(self):
        for call in (exits, odd_ones):
            with self.subTest(call=call.__name__):
                counts = [5, 0, 0, 2]
                told = call(LEVELLER, counts)
                kept = list(told)
                counts[0] = 100
                counts[3] = -1
                self.assertEqual(told, kept)
                self.assertEqual(call(LEVELLER, [5, 0, 0, 2]), kept)
                self.assertEqual(call(LEVELLER, counts), call(LEVELLER, [100, 0, 0, -1]))

    def test_counts_that_were_level(self):
        counts = [2, 1, 1]
        self.assertIs(is_level(counts), True)
        counts[2] = 2
        self.assertIs(is_level(counts), False)
        counts[1] = 2
        self.assertIs(is_level(counts), True)
