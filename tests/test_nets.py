"""Point 4: what a net is, and what makes one."""

import collections
import unittest

from evenpass.errors import NoNet
from evenpass.nets import is_net, net_of
from tests.samples import Grudging, deep_tuple, within_itself

Pair = collections.namedtuple("Pair", "first second")


# No lane of a net of three lanes, of whatever kind.
NO_LANES = (
    -1, -3, 3, 4, 10 ** 60, -10 ** 60, True, False, None, "0", "", "a", 0.0, 1.0, float("nan"), 1j, b"0",
    [], [0], (), (0,), {}, {0: 1}, set(), object(), int, len, range(3), Grudging(), within_itself())

# Neither a list nor a tuple.
NO_ROWS = (
    None, True, False, 0, 1, 7, "", "0-1", "01", 1.5, b"", {}, {(0, 1): True}, set(), {(0, 1)}, frozenset(),
    range(0), iter([]), iter([(0, 1)]), object(), list, tuple, len, Grudging())

NO_WIDES = (
    0, 9, -1, 10, 10 ** 60, -10 ** 60, True, False, None, "", "1", "2", 1.0, 2.0, float("nan"), 2j, b"2",
    [], [2], (), (2,), {}, {2: 2}, set(), object(), int, len, range(2), Grudging(), within_itself())


class NetCase(unittest.TestCase):
    def check_made(self, wide, wickets):
        net = net_of(wide, wickets)
        self.assertEqual(net, (wide, tuple(tuple(wicket) for wicket in wickets)))
        self.check_kinds(net)
        self.assertIs(is_net(net), True)
        self.assertEqual(net_of(net[0], net[1]), net)

    def check_kinds(self, net):
        self.assertIs(type(net), tuple)
        self.assertEqual(len(net), 2)
        self.assertIs(type(net[0]), int)
        self.assertIs(type(net[1]), tuple)
        for wicket in net[1]:
            self.assertIs(type(wicket), tuple)
            self.assertEqual([type(lane) for lane in wicket], [int, int])

    def check_refused(self, wide, wickets):
        with self.assertRaises(NoNet):
            net_of(wide, wickets)
        self.assertIs(is_net((wide, wickets)), False)


class Wides(NetCase):
    def test_every_wide_from_1_to_8(self):
        for wide in range(1, 9):
            with self.subTest(wide=wide):
                self.check_made(wide, [])
                self.check_made(wide, ())

    def test_no_other_wide(self):
        for place, wide in enumerate(NO_WIDES):
            with self.subTest(place=place):
                self.check_refused(wide, ())
                self.check_refused(wide, ((0, 1),))
                with self.assertRaises(NoNet):
                    net_of(wide, [])

    def test_one_lane_has_no_wickets(self):
        self.check_made(1, [])
        for wicket in ((0, 0), (0, 1), (1, 0), (0, -1), (1, 2), (), (0,)):
            with self.subTest(wicket=wicket):
                self.check_refused(1, (wicket,))


class Wickets(NetCase):
    def test_each_two_unlike_lanes_either_way(self):
        for wide in range(2, 9):
            for first in range(wide):
                for second in range(wide):
                    with self.subTest(wide=wide, first=first, second=second):
                        if first == second:
                            self.check_refused(wide, ((first, second),))
                        else:
                            self.check_made(wide, ((first, second),))

    def test_list_and_tuple_make_the_same(self):
        wickets = [(0, 3), (1, 2), (3, 0), (0, 3)]
        self.check_made(4, wickets)
        self.check_made(4, tuple(wickets))
        self.assertEqual(net_of(4, wickets), net_of(4, tuple(wickets)))

    def test_the_order_stays(self):
        self.assertEqual(net_of(3, [(2, 1), (0, 1), (2, 1), (1, 0)]), (3, ((2, 1), (0, 1), (2, 1), (1, 0))))

    def test_forty_wickets_and_forty_one(self):
        for wide in (2, 8):
            for kind in (list, tuple):
                with self.subTest(wide=wide, kind=kind):
                    self.check_made(wide, kind([(0, 1)] * 39))
                    self.check_made(wide, kind([(1, 0)] * 40))
                    self.check_refused(wide, kind([(0, 1)] * 41))
                    self.check_refused(wide, kind([(0, 1)] * 100))

    def test_a_named_pair_is_a_tuple(self):
        net = net_of(2, [Pair(0, 1)])
        self.assertEqual(net, (2, ((0, 1),)))
        self.check_kinds(net)

    def test_wickets_are_a_list_or_a_tuple(self):
        for place, wickets in enumerate(NO_ROWS):
            with self.subTest(place=place):
                self.check_refused(3, wickets)
                self.check_refused(1, wickets)

    def test_a_wicket_is_a_tuple(self):
        for place, wicket in enumerate(NO_ROWS + ([0, 1], [], [(0, 1)], within_itself())):
            with self.subTest(place=place):
                self.check_refused_anywhere(wicket)

    def test_a_wicket_has_two_lanes(self):
        for wicket in ((), (0,), (1,), (0, 1, 2), (0, 1, 0), (0, 1, 1), (0, 1, None), (0, 1, 2, 0), ((0, 1),)):
            with self.subTest(wicket=wicket):
                self.check_refused_anywhere(wicket)

    def test_a_wicket_has_unlike_lanes(self):
        for lane in range(3):
            with self.subTest(lane=lane):
                self.check_refused_anywhere((lane, lane))

    def test_each_lane_is_a_lane_of_the_net(self):
        for place, thing in enumerate(NO_LANES):
            with self.subTest(place=place):
                self.check_refused_anywhere((thing, 2))
                self.check_refused_anywhere((2, thing))
                self.check_refused_anywhere((thing, thing))

    def check_refused_anywhere(self, wicket):
        good = (0, 1)
        for wickets in ((wicket,), (wicket, good, good), (good, wicket, good), (good, good, wicket)):
            self.check_refused(3, wickets)
            with self.assertRaises(NoNet):
                net_of(3, list(wickets))


class IsNet(NetCase):
    def test_nets(self):
        for net in ((1, ()), (8, ()), (2, ((0, 1),)), (2, ((1, 0), (0, 1))), (8, ((7, 0),) * 40)):
            with self.subTest(net=net):
                self.assertIs(is_net(net), True)

    def test_lists_in_the_place_of_tuples(self):
        for thing in ([2, ((0, 1),)], (2, [(0, 1)]), (2, ([0, 1],)), (2, []), [1, ()], (1, []), [2, [[0, 1]]]):
            with self.subTest(thing=thing):
                self.assertIs(is_net(thing), False)

    def test_tuples_of_another_length(self):
        for thing in ((), (2,), (2, (), ()), (2, (), None), ((0, 1),), (2, (0, 1), (1, 0))):
            with self.subTest(thing=thing):
                self.assertIs(is_net(thing), False)

    def test_a_bare_wicket_in_the_place_of_wickets(self):
        self.check_refused(2, (0, 1))

    def test_the_places_changed(self):
        self.check_refused((), 2)
        self.check_refused(((0, 1),), 2)

    def test_whatever_thing(self):
        for place, thing in enumerate(NO_ROWS + NO_LANES + NO_WIDES + (deep_tuple(30), deep_tuple(500))):
            with self.subTest(place=place):
                self.assertIs(is_net(thing), False)
                self.assertIs(is_net((thing, thing)), False)
                self.assertIs(is_net((2, (thing, thing))), False)
                self.assertIs(is_net((2, ((thing, thing),))), False)
