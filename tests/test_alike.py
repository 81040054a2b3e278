"""Point 20: nets that are alike, and counts that part them."""

import itertools
import random
import unittest

from evenpass.alike import parted
from evenpass.built import brick, folded, rounds
from evenpass.errors import NoNet, TooMany
from evenpass.joins import behind, beside, called, mirrored, slimmed
from tests.samples import (
    LEVELLER, LINE, SIXTY, TWISTED, by_the_words, drawn_counts, drawn_net, great_nets, layered_four, small_nets)
from tests.test_depths import layers_by_the_words
from tests.test_shares import parts

ONE = (2, ((0, 1),))
TURNED = (2, ((1, 0),))
# Alike though their wickets go in another order.
SWAPPED = (4, ((2, 3), (0, 1), (1, 2), (0, 3), (2, 3), (0, 1)))


def depth_by_the_words(net):
    return max(layers_by_the_words(net), default=0)


def like_shares(one, other):
    return all(parts(one, lane, 0) == parts(other, lane, 0) for lane in range(one[0]))


def first_layer(net):
    return {wicket for wicket, layer in zip(net[1], layers_by_the_words(net)) if layer == 1}


def doublings(one, other):
    common = first_layer(one) & first_layer(other)
    return max(depth_by_the_words(one), depth_by_the_words(other)) * (one[0] - len(common))


def all_rows(one, other):
    power = 2 ** max(depth_by_the_words(one), depth_by_the_words(other))
    return itertools.product(range(power), repeat=one[0])


class AlikeCase(unittest.TestCase):
    def check_parted(self, one, other):
        for ahead, behind_it in ((one, other), (other, one)):
            counts = parted(ahead, behind_it)
            self.assertEqual((type(counts), len(counts)), (list, one[0]))
            self.assertEqual({type(count) for count in counts}, {int})
            self.assertNotEqual(by_the_words(one, counts)[0], by_the_words(other, counts)[0], (one, other))

    def check_alike(self, one, other):
        self.assertIsNone(parted(one, other), (one, other))
        self.assertIsNone(parted(other, one), (one, other))

    def check_refused(self, one, other, refusal=TooMany):
        for ahead, behind_it in ((one, other), (other, one)):
            with self.assertRaises(refusal):
                parted(ahead, behind_it)

    def check_by_the_words(self, one, other):
        if not like_shares(one, other):
            self.check_parted(one, other)
        elif doublings(one, other) > 10:
            self.check_refused(one, other)
        elif all(by_the_words(one, row)[0] == by_the_words(other, row)[0] for row in all_rows(one, other)):
            self.check_alike(one, other)
        else:
            self.check_parted(one, other)


class Alike(AlikeCase):
    def test_a_net_and_itself(self):
        for net in ((1, ()), (8, ()), ONE, TURNED, LINE, LEVELLER, (2, ((0, 1),) * 10), (8, ((3, 7),))):
            with self.subTest(net=net):
                self.check_alike(net, net)

    def test_slimmed_nets(self):
        self.check_alike(ONE, (2, ((0, 1),) * 10))
        for net in ((4, LEVELLER[1] + ((0, 1), (2, 3))), (4, ((0, 1), (2, 3), (0, 1), (2, 3), (1, 2), (1, 2)))):
            with self.subTest(net=net):
                self.assertNotEqual(slimmed(net), net)
                self.check_alike(net, slimmed(net))

    def test_wickets_in_another_order(self):
        self.check_alike(LEVELLER, SWAPPED)
        self.check_alike((4, ((0, 1), (2, 3))), (4, ((2, 3), (0, 1))))

    def test_nets_that_level(self):
        self.check_alike(ONE, (2, ((1, 0), (0, 1))))
        self.check_alike(LEVELLER, folded(4)[0])
        self.check_alike(mirrored(LEVELLER), LEVELLER)

    def test_all_small_rows_of_alike_nets(self):
        for row in itertools.product(range(-4, 9), repeat=4):
            self.assertEqual(by_the_words(LEVELLER, row)[0], by_the_words(SWAPPED, row)[0])


class Parted(AlikeCase):
    def test_by_their_shares(self):
        self.check_parted((2, ()), ONE)
        self.check_parted(LINE, LEVELLER)
        self.check_parted((3, ((0, 1),)), (3, ((0, 2),)))
        self.check_parted((8, ()), (8, ((6, 7),)))
        self.check_parted(brick(4), LEVELLER)

    def test_by_their_shares_whatever_the_depth(self):
        self.check_parted((2, ()), (2, ((0, 1),) * 40))
        self.check_parted((3, ((0, 1), (1, 2)) * 20), (3, ((0, 1), (1, 2)) * 19 + ((0, 1),)))
        self.check_parted((8, ()), TWISTED)
        self.check_parted(brick(8), rounds(8))
        self.check_parted((8, ((0, 1),) * 40), (8, ((1, 2),) * 40))

    def test_shares_that_differ_by_little(self):
        one = (3, ((0, 1), (1, 2)) * 20)
        self.check_parted(one, (3, one[1][:-2]))
        self.check_parted(one, (3, one[1][:-1] + ((0, 2),)))

    def test_shares_that_differ_at_the_last_lane_alone(self):
        self.check_parted((8, ()), (8, ((6, 7),)))
        self.check_parted((8, ((0, 1), (6, 7))), (8, ((0, 1), (5, 7))))

    def test_like_shares_all_the_same(self):
        for one, other in (
                (ONE, TURNED), (LEVELLER, (4, LEVELLER[1] + ((1, 0),))),
                (LEVELLER, (4, ((0, 1), (2, 3), (0, 2), (1, 3)))),
                ((8, ((0, 1),)), (8, ((1, 0),))), ((4, ((0, 1), (2, 3))), (4, ((0, 1), (3, 2)))),
                ((2, ((0, 1),) * 5), (2, ((0, 1),) * 4 + ((1, 0),))), ((8, ((0, 1), (6, 7))), (8, ((0, 1), (7, 6)))),
                ((3, ((0, 1), (1, 2))), (3, ((1, 0), (1, 2))))):
            with self.subTest(one=one, other=other):
                self.assertTrue(like_shares(one, other))
                self.check_parted(one, other)

    def test_like_shares_where_the_counts_must_be_great(self):
        # Parted only at the last of many wickets, on a lane where many have to come in.
        one = (4, ((0, 1), (1, 2), (2, 3)))
        other = (4, ((0, 1), (1, 2), (3, 2)))
        self.assertEqual((like_shares(one, other), doublings(one, other)), (True, 9))
        self.check_parted(one, other)
        self.check_parted((8, one[1]), (8, one[1][:2] + ((4, 3), (3, 2))))

    def test_nets_called_otherwise(self):
        self.check_parted(ONE, called(ONE, [1, 0]))
        self.check_parted(LEVELLER, called(LEVELLER, [2, 3, 0, 1]))
        self.check_refused(LEVELLER, called(LEVELLER, [3, 2, 1, 0]))


class Refused(AlikeCase):
    def test_unlike_wides(self):
        for one, other in itertools.combinations(range(1, 9), 2):
            self.check_refused((one, ()), (other, ()), NoNet)
        self.check_refused(ONE, LINE, NoNet)

    def test_unlike_wides_go_ahead_of_too_many_counts(self):
        self.check_refused((2, ((0, 1),) * 40), (3, ((0, 1),) * 40), NoNet)

    def test_ten_and_eleven_with_a_wicket_of_layer_1_in_both(self):
        ten = (2, ((0, 1),) * 10)
        eleven = (2, ((0, 1),) * 11)
        self.assertEqual((doublings(ten, ten), doublings(eleven, eleven)), (10, 11))
        self.check_alike(ten, ten)
        self.check_parted(ten, (2, ten[1][:-1] + ((1, 0),)))
        self.check_refused(eleven, eleven)
        self.check_refused(eleven, (2, ((0, 1),) * 10 + ((1, 0),)))
        self.check_refused((2, ((1, 0),) * 40), (2, ((1, 0),) * 40))

    def test_wickets_of_layer_1_the_other_way_round(self):
        ten = ((2, ((0, 1),) * 5), (2, ((1, 0),) + ((0, 1),) * 4))
        twelve = ((2, ((0, 1),) * 6), (2, ((1, 0),) + ((0, 1),) * 5))
        self.assertEqual((doublings(*ten), doublings(*twelve)), (10, 12))
        self.check_alike(*ten)
        self.check_parted(ten[0], (2, ((1, 0),) * 5))
        self.check_refused(*twelve)
        self.check_refused((2, ((0, 1),) * 6), (2, ((1, 0),) * 6))

    def test_a_wicket_of_layer_1_in_one_and_of_layer_2_in_the_other(self):
        one = (4, ((0, 1), (2, 3), (0, 2), (1, 3), (0, 1), (2, 3)))
        other = (4, ((0, 2), (1, 3), (0, 1), (2, 3)))
        self.assertEqual((like_shares(one, other), doublings(one, other)), (True, 12))
        self.check_refused(one, other)
        self.check_refused((4, one[1][:4]), (4, other[1] + ((0, 2),)))

    def test_four_lanes_with_two_one_and_no_wickets_of_layer_1_in_both(self):
        deep = LEVELLER[1] + ((0, 1), (2, 3)) * 2
        self.assertEqual(doublings((4, deep), LEVELLER), 10)
        self.check_alike((4, deep), LEVELLER)
        self.check_refused((4, deep + ((0, 1),)), LEVELLER)
        one_turned = (4, ((0, 1), (3, 2)) + LEVELLER[1][2:])
        self.assertEqual(doublings(one_turned, LEVELLER), 9)
        self.check_by_the_words(one_turned, LEVELLER)
        self.check_refused((4, one_turned[1] + ((0, 1),)), LEVELLER)
        both_turned = (4, ((1, 0), (3, 2)) + LEVELLER[1][2:])
        self.assertEqual(doublings(both_turned, LEVELLER), 12)
        self.check_refused(both_turned, LEVELLER)

    def test_unlike_depths(self):
        self.check_alike(ONE, (2, ((0, 1),) * 10))
        self.check_refused(ONE, (2, ((0, 1),) * 11))
        self.check_alike(ONE, (2, ((1, 0),) * 4 + ((0, 1),)))
        self.check_parted(ONE, (2, ((1, 0),) * 5))
        self.check_refused(ONE, (2, ((1, 0),) * 6))
        self.check_alike(LEVELLER, (4, LEVELLER[1] + LEVELLER[1][:4]))

    def test_nets_without_wickets_are_never_refused(self):
        for wide in range(1, 9):
            self.check_alike((wide, ()), (wide, ()))

    def test_eight_lanes(self):
        row = ((0, 1), (2, 3), (4, 5), (6, 7))
        self.check_alike((8, row), (8, row[::-1]))
        self.check_parted((8, row), (8, ((1, 0), (3, 2), (5, 4), (7, 6))))
        self.check_alike((8, row * 2), (8, row))
        self.check_refused((8, row * 3), (8, row))
        self.check_refused(folded(8)[0], rounds(8))


class Everywhere(AlikeCase):
    def test_two_lanes(self):
        nets = [net for net in small_nets() if net[0] == 2]
        for one, other in itertools.combinations_with_replacement(nets, 2):
            self.check_by_the_words(one, other)

    def test_three_lanes(self):
        drawn = random.Random(201)
        nets = [net for net in small_nets() if net[0] == 3]
        found = 0
        while found < 60:
            one, other = drawn.sample(nets, 2)
            if like_shares(one, other) and depth_by_the_words(one) < 4 and depth_by_the_words(other) < 4:
                self.check_by_the_words(one, other)
                found += 1
        for time in range(200):
            one, other = drawn.sample(nets, 2)
            if not like_shares(one, other):
                self.check_parted(one, other)

    def test_four_lanes_with_one_wicket_turned(self):
        for net in layered_four(2)[::7]:
            for number in range(4):
                wickets = list(net[1])
                wickets[number] = wickets[number][::-1]
                self.check_by_the_words(net, (4, tuple(wickets)))

    def test_great_nets(self):
        for net in great_nets():
            other = (net[0], net[1][1:])
            if not like_shares(net, other):
                self.check_parted(net, other)
            elif doublings(net, other) > 10:
                self.check_refused(net, other)

    def test_told_alike_against_drawn_counts(self):
        drawn = random.Random(202)
        found = 0
        for net in small_nets()[::5] + [LEVELLER, LINE]:
            for other in (slimmed(net), behind(net, (net[0], net[1][-1:])), mirrored(net)):
                if like_shares(net, other) and doublings(net, other) <= 10 and parted(net, other) is None:
                    found += net != other
                    for most in (3, SIXTY):
                        counts = drawn_counts(drawn, net[0], most)
                        self.assertEqual(by_the_words(net, counts)[0], by_the_words(other, counts)[0])
        self.assertGreater(found, 50)

    def test_nets_beside_each_other(self):
        for one, other in itertools.product((ONE, TURNED), repeat=2):
            for another in (ONE, TURNED):
                self.check_by_the_words(beside(one, another), beside(other, another))

    def test_drawn_nets(self):
        drawn = random.Random(203)
        for time in range(100):
            wide = drawn.randint(2, 8)
            one, other = drawn_net(drawn, wide, 40), drawn_net(drawn, wide, 40)
            if not like_shares(one, other):
                self.check_parted(one, other)
