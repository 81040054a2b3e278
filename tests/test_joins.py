"""Points 18 and 19: nets behind, beside each other, called otherwise, mirrored, slimmed."""

import itertools
import random
import unittest

from evenpass.built import brick, folded, rounds
from evenpass.errors import NoNet, TooMany
from evenpass.joins import behind, beside, called, mirrored, slimmed
from evenpass.nets import is_net
from evenpass.verdict import levels
from tests.samples import (
    LEVELLER, LINE, SIXTY, TWISTED, by_the_words, drawn_counts, drawn_net, great_nets, layered_four, small_nets)

MANY = (2, ((0, 1), (1, 0)) * 10)


def some_nets():
    return small_nets()[::7] + great_nets()


class JoinCase(unittest.TestCase):
    def check_net(self, told, wanted):
        self.assertEqual(told, wanted)
        self.assertTrue(is_net(told))
        self.assertEqual({type(thing) for thing in (told, told[1]) + told[1]}, {tuple})
        self.assertEqual({type(number) for number in (told[0],) + sum(told[1], ())}, {int})

    def check_refused(self, refusal, call, one, other):
        with self.assertRaises(refusal):
            call(one, other)


class Behind(JoinCase):
    def test_without_wickets(self):
        self.check_net(behind((1, ()), (1, ())), (1, ()))
        self.check_net(behind((8, ()), (8, ())), (8, ()))
        self.check_net(behind((4, ()), LINE), LINE)
        self.check_net(behind(LINE, (4, ())), LINE)

    def test_the_wickets_of_the_first_one_go_first(self):
        self.check_net(behind((2, ((0, 1),)), (2, ((1, 0),))), (2, ((0, 1), (1, 0))))
        self.check_net(behind((2, ((1, 0),)), (2, ((0, 1),))), (2, ((1, 0), (0, 1))))
        self.check_net(
            behind(LINE, (4, ((3, 0), (2, 1)))), (4, ((0, 1), (1, 2), (2, 3), (3, 0), (2, 1))))

    def test_a_net_behind_itself(self):
        self.check_net(behind(LINE, LINE), (4, LINE[1] * 2))

    def test_forty_wickets_and_forty_one(self):
        self.check_net(behind(MANY, MANY), (2, MANY[1] * 2))
        self.check_net(behind((2, ()), (2, MANY[1] * 2)), (2, MANY[1] * 2))
        self.check_net(behind((2, MANY[1] * 2), (2, ())), (2, MANY[1] * 2))
        self.check_refused(TooMany, behind, MANY, (2, MANY[1] + ((0, 1),)))
        self.check_refused(TooMany, behind, (2, MANY[1] + ((0, 1),)), MANY)
        self.check_refused(TooMany, behind, (2, MANY[1] * 2), (2, MANY[1] * 2))

    def test_unlike_wides(self):
        for one, other in itertools.permutations(range(1, 9), 2):
            self.check_refused(NoNet, behind, (one, ()), (other, ()))
        self.check_refused(NoNet, behind, LINE, TWISTED)

    def test_unlike_wides_go_ahead_of_too_many_wickets(self):
        self.check_refused(NoNet, behind, (2, MANY[1] * 2), (3, MANY[1] * 2))
        self.check_refused(NoNet, behind, (3, MANY[1] * 2), (2, ((0, 1),)))

    def test_the_exits_are_those_of_the_exits(self):
        drawn = random.Random(181)
        for time in range(150):
            wide = drawn.randint(1, 8)
            one, other = drawn_net(drawn, wide, 20), drawn_net(drawn, wide, 20)
            told = behind(one, other)
            for most in (2, SIXTY):
                counts = drawn_counts(drawn, wide, most)
                self.assertEqual(
                    by_the_words(told, counts)[0], by_the_words(other, by_the_words(one, counts)[0])[0])


class Beside(JoinCase):
    def test_without_wickets(self):
        self.check_net(beside((1, ()), (1, ())), (2, ()))
        self.check_net(beside((3, ()), (5, ())), (8, ()))

    def test_the_second_one_is_called_by_as_many_more(self):
        self.check_net(beside((2, ((0, 1),)), (2, ((1, 0),))), (4, ((0, 1), (3, 2))))
        self.check_net(beside((2, ((1, 0),)), (2, ((0, 1),))), (4, ((1, 0), (2, 3))))
        self.check_net(beside((1, ()), LINE), (5, ((1, 2), (2, 3), (3, 4))))
        self.check_net(beside(LINE, (1, ())), (5, LINE[1]))
        self.check_net(
            beside((3, ((0, 2), (2, 1))), (5, ((4, 0), (1, 3)))), (8, ((0, 2), (2, 1), (7, 3), (4, 6))))

    def test_a_net_beside_itself(self):
        self.check_net(beside(LINE, LINE), (8, LINE[1] + ((4, 5), (5, 6), (6, 7))))

    def test_forty_wickets_and_forty_one(self):
        self.check_net(beside(MANY, MANY), (4, MANY[1] + ((2, 3), (3, 2)) * 10))
        self.check_net(beside((2, MANY[1] * 2), (6, ())), (8, MANY[1] * 2))
        self.check_refused(TooMany, beside, MANY, (2, MANY[1] + ((0, 1),)))
        self.check_refused(TooMany, beside, (6, MANY[1] * 2), (2, ((0, 1),)))
        self.check_refused(TooMany, beside, (4, MANY[1] * 2), (4, MANY[1] * 2))

    def test_eight_lanes_and_nine(self):
        for one, other in itertools.product(range(1, 9), repeat=2):
            if one + other <= 8:
                self.check_net(beside((one, ()), (other, ())), (one + other, ()))
            else:
                self.check_refused(NoNet, beside, (one, ()), (other, ()))
        self.check_refused(NoNet, beside, TWISTED, (1, ()))

    def test_too_many_lanes_go_ahead_of_too_many_wickets(self):
        self.check_refused(NoNet, beside, (5, MANY[1] * 2), (4, MANY[1] * 2))
        self.check_refused(NoNet, beside, (8, MANY[1] * 2), (2, ((0, 1),)))

    def test_the_exits_are_those_of_both(self):
        drawn = random.Random(182)
        for time in range(150):
            wide = drawn.randint(1, 7)
            one, other = drawn_net(drawn, wide, 20), drawn_net(drawn, drawn.randint(1, 8 - wide), 20)
            told = beside(one, other)
            for most in (2, SIXTY):
                counts = drawn_counts(drawn, told[0], most)
                wanted = by_the_words(one, counts[:wide])[0] + by_the_words(other, counts[wide:])[0]
                self.assertEqual(by_the_words(told, counts)[0], wanted)


class Called(JoinCase):
    def test_by_the_order_as_it_is(self):
        for net in some_nets():
            self.check_net(called(net, list(range(net[0]))), net)

    def test_the_other_way_round(self):
        self.check_net(called(LINE, [3, 2, 1, 0]), (4, ((3, 2), (2, 1), (1, 0))))
        self.check_net(called((1, ()), [0]), (1, ()))
        self.check_net(called((2, ((0, 1), (1, 0))), [1, 0]), (2, ((1, 0), (0, 1))))

    def test_the_lane_in_the_place_of_lane_i_is_order_i(self):
        self.check_net(called((3, ((0, 1),)), [1, 2, 0]), (3, ((1, 2),)))
        self.check_net(called((3, ((0, 1), (2, 0))), [2, 0, 1]), (3, ((2, 0), (1, 2))))
        self.check_net(called(LINE, [1, 2, 3, 0]), (4, ((1, 2), (2, 3), (3, 0))))

    def test_the_exits_are_those_of_the_net_called_so(self):
        drawn = random.Random(183)
        for net in some_nets():
            order = drawn.sample(range(net[0]), net[0])
            told = called(net, order)
            counts = drawn_counts(drawn, net[0], 50)
            exits = by_the_words(told, [counts[order.index(lane)] for lane in range(net[0])])[0]
            self.assertEqual([exits[lane] for lane in order], by_the_words(net, counts)[0])

    def test_called_back_it_is_the_net(self):
        for order in itertools.permutations(range(4)):
            back = [order.index(lane) for lane in range(4)]
            for net in (LINE, LEVELLER, (4, ((3, 1), (0, 2)))):
                self.check_net(called(called(net, list(order)), back), net)


class Mirrored(JoinCase):
    def test_wickets(self):
        self.check_net(mirrored((1, ())), (1, ()))
        self.check_net(mirrored((8, ())), (8, ()))
        self.check_net(mirrored((2, ((0, 1),))), (2, ((0, 1),)))
        self.check_net(mirrored((2, ((1, 0),))), (2, ((1, 0),)))
        self.check_net(mirrored(LINE), (4, ((2, 3), (1, 2), (0, 1))))
        self.check_net(mirrored((3, ((0, 2), (1, 0)))), (3, ((0, 2), (2, 1))))

    def test_twice_is_the_net(self):
        for net in some_nets():
            self.check_net(mirrored(mirrored(net)), net)

    def test_exits_the_other_way_round_and_with_the_other_sign(self):
        drawn = random.Random(184)
        for net in some_nets():
            for most in (3, SIXTY):
                counts = drawn_counts(drawn, net[0], most)
                turned = [-count for count in counts[::-1]]
                wanted = [-exit for exit in by_the_words(net, turned)[0][::-1]]
                self.assertEqual(by_the_words(mirrored(net), counts)[0], wanted, (net, counts))

    def test_it_levels_just_where_the_net_does(self):
        found = 0
        for net in layered_four(2) + layered_four(3)[::5] + [LEVELLER, rounds(4), (2, ((1, 0), (0, 1)))]:
            told = levels(mirrored(net))[0]
            self.assertEqual(told, levels(net)[0], net)
            found += told == "levels"
        self.assertGreater(found, 2)


def is_idle(wickets, number):
    wicket = wickets[number]
    for ahead in range(number):
        between = wickets[ahead + 1:number]
        if wickets[ahead] == wicket and not any(set(other) & set(wicket) for other in between):
            return True
    return False


def slimmed_by_the_words(net):
    left = list(net[1])
    while True:
        idle = [number for number in range(len(left)) if is_idle(left, number)]
        if not idle:
            return (net[0], tuple(left))
        left.pop(min(idle))


class Slimmed(JoinCase):
    def test_no_idle_wickets(self):
        for net in ((1, ()), (8, ()), (2, ((0, 1),)), LINE, LEVELLER, TWISTED, brick(8), folded(8)[0], rounds(8)):
            with self.subTest(net=net):
                self.check_net(slimmed(net), net)

    def test_one_idle_wicket(self):
        self.check_net(slimmed((2, ((0, 1), (0, 1)))), (2, ((0, 1),)))
        self.check_net(slimmed((4, LINE[1] + ((2, 3),))), LINE)
        self.check_net(slimmed((4, ((0, 1), (2, 3), (0, 1)))), (4, ((0, 1), (2, 3))))
        self.check_net(slimmed((4, ((0, 1), (2, 3), (3, 2), (0, 1)))), (4, ((0, 1), (2, 3), (3, 2))))

    def test_a_lane_of_theirs_between(self):
        for between in ((1, 2), (2, 1), (0, 2), (2, 0), (1, 3), (0, 3)):
            net = (4, ((0, 1), between, (0, 1)))
            with self.subTest(net=net):
                self.check_net(slimmed(net), net)

    def test_the_other_way_round_is_not_idle(self):
        for net in ((2, ((0, 1), (1, 0))), (2, ((1, 0), (0, 1), (1, 0))), (4, ((0, 1), (2, 3), (1, 0), (3, 2)))):
            with self.subTest(net=net):
                self.check_net(slimmed(net), net)

    def test_many_idle_wickets(self):
        self.check_net(slimmed((2, ((1, 0),) * 40)), (2, ((1, 0),)))
        self.check_net(slimmed((8, ((0, 1), (2, 3), (4, 5), (6, 7)) * 10)), (8, ((0, 1), (2, 3), (4, 5), (6, 7))))
        self.check_net(slimmed((2, ((0, 1), (0, 1), (1, 0), (1, 0)) * 10)), (2, ((0, 1), (1, 0)) * 10))

    def test_between_them_one_that_is_taken_out(self):
        self.check_net(slimmed((4, ((0, 1), (0, 1), (2, 3), (0, 1), (2, 3), (0, 1)))), (4, ((0, 1), (2, 3))))
        self.check_net(
            slimmed((3, ((0, 1), (1, 2), (1, 2), (0, 1), (0, 1)))), (3, ((0, 1), (1, 2), (0, 1))))
        self.check_net(
            slimmed((4, ((0, 1), (2, 3), (0, 1), (1, 2), (1, 2), (2, 3), (2, 3)))),
            (4, ((0, 1), (2, 3), (1, 2), (2, 3))))

    def test_the_words(self):
        drawn = random.Random(191)
        for net in small_nets() + great_nets():
            self.check_net(slimmed(net), slimmed_by_the_words(net))
        for time in range(300):
            net = drawn_net(drawn, drawn.randint(2, 8), 40)
            choice = net[1][:4]
            repeated = (net[0], tuple(drawn.choice(choice) for number in range(40)) if choice else ())
            self.check_net(slimmed(net), slimmed_by_the_words(net))
            self.check_net(slimmed(repeated), slimmed_by_the_words(repeated))

    def test_slimmed_again_is_the_same(self):
        for net in small_nets() + great_nets():
            self.assertEqual(slimmed(slimmed(net)), slimmed(net))

    def test_the_exits_stay(self):
        drawn = random.Random(192)
        for net in small_nets()[::3] + great_nets() + [(8, ((0, 1), (2, 3), (0, 1), (1, 2)) * 10)]:
            for most in (2, SIXTY):
                counts = drawn_counts(drawn, net[0], most)
                self.assertEqual(by_the_words(slimmed(net), counts)[0], by_the_words(net, counts)[0])
