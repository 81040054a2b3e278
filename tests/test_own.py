"""Point 2: nothing that is handed in is changed, and what is told is the asker's own."""

import copy
import unittest

from evenpass.alike import parted
from evenpass.built import brick, folded, rounds
from evenpass.counts import exits, odd_ones
from evenpass.depths import depth, layers, longest
from evenpass.desk import Desk
from evenpass.errors import NetError, NoNet
from evenpass.far import bound, spread
from evenpass.joins import behind, beside, called, mirrored, slimmed
from evenpass.level import is_level, level_counts
from evenpass.nets import is_net, net_of
from evenpass.order import falls, orders, put_in_order
from evenpass.papers import shows
from evenpass.shares import shares, tilts, uneven
from evenpass.texts import read_net, show_net
from evenpass.verdict import levels
from tests.samples import LEVELLER, LINE, TWISTED


def spoil(told):
    for thing in told:
        if isinstance(thing, (list, tuple)):
            spoil(thing)
    if isinstance(told, list):
        told.reverse()
        told.append("spoilt")
        told[0] = None


class HandedIn(unittest.TestCase):
    def check_unchanged(self, call, *handed):
        kept = copy.deepcopy(handed)
        first = call(*handed)
        self.assertEqual(handed, kept)
        self.assertEqual(call(*handed), first)
        self.assertEqual(handed, kept)

    def test_wickets_stay(self):
        self.check_unchanged(net_of, 4, [(0, 3), (2, 1), (0, 3)])
        self.check_unchanged(net_of, 4, [])

    def test_refused_wickets_stay_with_the_lists_within(self):
        inner = [0, 1]
        wickets = [(0, 1), inner, (2, [3, 4])]
        kept = copy.deepcopy(wickets)
        with self.assertRaises(NoNet):
            net_of(4, wickets)
        self.assertEqual(wickets, kept)
        self.assertIs(wickets[1], inner)

    def test_whatever_thing_stays(self):
        for thing in ([2, [[0, 1]]], (2, [(0, 1)]), (2, ([1, 0], {0: [1]})), {2: [(0, 1)]}):
            with self.subTest(thing=thing):
                self.check_unchanged(is_net, thing)

    def test_counts_stay(self):
        for call in (exits, odd_ones):
            for net in (LINE, LEVELLER, (4, ())):
                with self.subTest(call=call.__name__, net=net):
                    self.check_unchanged(call, net, [7, -2, 0, 3])

    def test_nets_stay(self):
        for call in (layers, depth, longest, shares, tilts, uneven, levels, orders, bound, spread):
            with self.subTest(call=call.__name__):
                self.check_unchanged(call, TWISTED)
                self.check_unchanged(call, LEVELLER)

    def test_counts_that_may_be_level_stay(self):
        for counts in ([2, 1, 1], [0, 1], [3, 3, 1], [5]):
            with self.subTest(counts=counts):
                self.check_unchanged(is_level, counts)
                self.check_unchanged(falls, counts)

    def test_values_stay(self):
        for net in (LINE, LEVELLER, (4, ())):
            with self.subTest(net=net):
                self.check_unchanged(put_in_order, net, [3, -1, 9, 9])

    def test_papers_stay_with_the_lists_within(self):
        for paper in (
                folded(4)[1], ("halves", 2, [0, 1], [2, 3], ["all"], ["all"]), ["halves", 2, [[1], [0]]],
                ("halves", [2], (0, [1]), ([3], 2), ("all", [1]), {"one": [1]}), [["one"]]):
            with self.subTest(paper=paper):
                self.check_unchanged(shows, LEVELLER, paper)

    def test_nets_that_are_put_together_stay(self):
        for call in (behind, beside, parted):
            with self.subTest(call=call.__name__):
                self.check_unchanged(call, LINE, LEVELLER)
                self.check_unchanged(call, LEVELLER, LEVELLER)
        for call in (mirrored, slimmed, show_net):
            for net in (TWISTED, LEVELLER, (4, LINE[1] + LINE[1][-1:])):
                with self.subTest(call=call.__name__, net=net):
                    self.check_unchanged(call, net)

    def test_an_order_stays(self):
        for order in ([0, 1, 2, 3], [3, 2, 1, 0], [1, 3, 0, 2]):
            with self.subTest(order=order):
                self.check_unchanged(called, LEVELLER, order)

    def test_refused_texts_and_rows_stay_with_the_lists_within(self):
        for thing in (["4: 0-1", ["net"]], {"4:": [1]}, ("show", ["a"])):
            kept = copy.deepcopy(thing)
            for call in (read_net, Desk().say):
                with self.assertRaises(NetError):
                    call(thing)
                self.assertEqual(thing, kept)


class Told(unittest.TestCase):
    def check_own(self, call, *handed):
        first = call(*handed)
        kept = copy.deepcopy(first)
        spoil(first)
        again = call(*handed)
        self.assertEqual(again, kept)
        spoil(again)
        self.assertEqual(call(*handed), kept)

    def test_lists_of_depths(self):
        for net in (LINE, LEVELLER, TWISTED, (3, ())):
            for call in (layers, longest):
                with self.subTest(call=call.__name__, net=net):
                    self.check_own(call, net)
            self.assertEqual(depth(net), max(layers(net), default=0))

    def test_lists_of_counts(self):
        for net in (LINE, LEVELLER, (4, ())):
            for call in (exits, odd_ones):
                with self.subTest(call=call.__name__, net=net):
                    self.check_own(call, net, [7, -2, 0, 3])

    def test_lists_of_shares(self):
        for net in (LINE, LEVELLER, TWISTED, (3, ()), (2, ((0, 1),))):
            for call in (shares, tilts):
                with self.subTest(call=call.__name__, net=net):
                    self.check_own(call, net)

    def test_the_rows_within_a_list_are_not_the_same_one(self):
        for told in (shares(LEVELLER), tilts(LEVELLER)):
            told[0][0] = "spoilt"
            self.assertNotIn("spoilt", sum(told[1:], []))

    def test_level_counts(self):
        self.check_own(level_counts, 4, 7)
        self.check_own(level_counts, 1, -1)

    def test_counts_of_a_verdict(self):
        for net in (LINE, TWISTED, (2, ()), (2, ((1, 0),)), (4, LEVELLER[1] + ((1, 0), (3, 2)))):
            with self.subTest(net=net):
                self.check_own(levels, net)

    def test_bits_and_counts_of_verdicts(self):
        for net in (LINE, TWISTED, (2, ()), (2, ((1, 0),)), (4, ((0, 1), (2, 3), (0, 2), (1, 3)))):
            with self.subTest(net=net):
                self.check_own(orders, net)
                self.check_own(spread, net)

    def test_values_put_in_order(self):
        for net in (LINE, LEVELLER, (4, ())):
            with self.subTest(net=net):
                self.check_own(put_in_order, net, [3, -1, 9, 9])

    def test_built_nets_and_papers_hold_nothing_that_can_be_changed(self):
        for wide in (1, 2, 4, 8):
            for told in (folded(wide), rounds(wide), brick(wide)):
                with self.subTest(wide=wide):
                    hash(told)
                    self.assertNotIn("[", repr(told))

    def test_nets_put_together_or_read_hold_nothing_that_can_be_changed(self):
        for told in (
                behind(LINE, LEVELLER), beside(LINE, LEVELLER), called(LINE, [3, 1, 0, 2]), mirrored(LINE),
                slimmed((4, LINE[1] * 2)), read_net("4: 0-1 1-2")):
            with self.subTest(told=told):
                hash(told)
                self.assertNotIn("[", repr(told))

    def test_counts_that_part_two_nets(self):
        for one, other in ((LINE, LEVELLER), ((2, ((0, 1),)), (2, ((1, 0),))), ((8, ()), TWISTED)):
            with self.subTest(one=one, other=other):
                self.check_own(parted, one, other)

    def test_exits_without_wickets_are_not_the_counts_themselves(self):
        counts = [1, 2, 3]
        told = exits((3, ()), counts)
        self.assertIsNot(told, counts)
        counts[0] = 100
        self.assertEqual(told, [1, 2, 3])

    def test_later_questions_leave_an_answer_as_it_was(self):
        told = [layers(LINE), longest(LINE), exits(LINE, [5, 0, 0, 0]), odd_ones(LINE, [5, 0, 0, 0])]
        kept = copy.deepcopy(told)
        for net in (LINE, LEVELLER):
            layers(net), longest(net), exits(net, [1, 1, 9, -4]), odd_ones(net, [1, 1, 9, -4])
        self.assertEqual(told, kept)


class ChangedBehindACall(unittest.TestCase):
    def test_wickets(self):
        wickets = [(0, 1), (1, 2)]
        net = net_of(3, wickets)
        wickets.append((0, 2))
        wickets[0] = None
        self.assertEqual(net, (3, ((0, 1), (1, 2))))
        self.assertEqual(layers(net), [1, 2])
        self.assertEqual(net_of(3, [(0, 1), (1, 2)]), net)

    def test_wickets_asked_of_again(self):
        wickets = [(0, 1)]
        net_of(2, wickets)
        wickets[0] = [0, 1]
        with self.assertRaises(NoNet):
            net_of(2, wickets)
        wickets[0] = (1, 0)
        self.assertEqual(net_of(2, wickets), (2, ((1, 0),)))

    def test_counts(self):
        for call in (exits, odd_ones):
            with self.subTest(call=call.__name__):
                counts = [5, 0, 0, 2]
                told = call(LEVELLER, counts)
                kept = list(told)
                counts[0] = 100
                counts[3] = -1
                self.assertEqual(told, kept)
                self.assertEqual(call(LEVELLER, [5, 0, 0, 2]), kept)
                self.assertEqual(call(LEVELLER, counts), call(LEVELLER, [100, 0, 0, -1]))

    def test_counts_that_were_level(self):
        counts = [2, 1, 1]
        self.assertIs(is_level(counts), True)
        counts[2] = 2
        self.assertIs(is_level(counts), False)
        counts[1] = 2
        self.assertIs(is_level(counts), True)

    def test_values(self):
        values = [1, 2, 3, 4]
        told = put_in_order(LEVELLER, values)
        values[0] = 100
        self.assertEqual(told, [4, 3, 2, 1])
        self.assertEqual(put_in_order(LEVELLER, values), [100, 4, 3, 2])
        told = put_in_order((4, ()), values)
        values.reverse()
        self.assertEqual(told, [100, 2, 3, 4])

    def test_values_that_fell(self):
        values = [2, 1]
        self.assertIs(falls(values), True)
        values[1] = 3
        self.assertIs(falls(values), False)

    def test_a_list_within_a_paper(self):
        inner = [0, 1]
        paper = ("halves", 2, inner, (2, 3), ("all",), ("all",))
        self.assertIs(shows(LEVELLER, paper), False)
        inner.clear()
        self.assertIs(shows(LEVELLER, paper), False)
        self.assertIs(shows(LEVELLER, ("halves", 2, (0, 1), (2, 3), ("all",), ("all",))), True)

    def test_an_order(self):
        order = [3, 1, 0, 2]
        told = called(LINE, order)
        order[0] = 1
        order.reverse()
        self.assertEqual(told, (4, ((3, 1), (1, 0), (0, 2))))
        self.assertEqual(called(LINE, [3, 1, 0, 2]), told)
        self.assertEqual(called(LINE, [0, 1, 2, 3]), LINE)
