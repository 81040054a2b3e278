"""Point 15: rows of values put in order; of point 3, what levels orders."""

import itertools
import random
import unittest

from evenpass.built import brick, folded, rounds
from evenpass.order import falls, orders, put_in_order
from evenpass.verdict import levels
from tests.samples import LEVELLER, LINE, SIXTY, TWISTED, great_nets, layered_four, small_nets


def put_by_the_words(net, values):
    now = list(values)
    for first, second in net[1]:
        if now[second] > now[first]:
            now[first], now[second] = now[second], now[first]
    return now


def falls_by_the_words(values):
    return all(values[i] <= values[i - 1] for i in range(1, len(values)))


class OrderCase(unittest.TestCase):
    def check_put(self, net, values, wanted):
        told = put_in_order(net, values)
        self.assertEqual(told, wanted)
        self.assertEqual({type(told)} | {type(value) for value in told}, {list, int})

    def check_orders(self, net):
        self.assertEqual(orders(net), ("orders",), net)
        self.assertIs(type(orders(net)), tuple)

    def check_not(self, net):
        told = orders(net)
        self.assertIs(type(told), tuple)
        self.assertEqual((len(told), told[0]), (2, "not"), net)
        bits = told[1]
        self.assertEqual((type(bits), len(bits)), (list, net[0]))
        for bit in bits:
            self.assertIs(type(bit), int)
            self.assertIn(bit, (0, 1))
        self.assertFalse(falls_by_the_words(put_by_the_words(net, bits)), (net, bits))


class Put(OrderCase):
    def test_the_greater_to_the_first_lane(self):
        for values in ([1, 2], [2, 1]):
            self.check_put((2, ((0, 1),)), values, [2, 1])
            self.check_put((2, ((1, 0),)), values, [1, 2])

    def test_without_wickets(self):
        self.check_put((1, ()), [-5], [-5])
        self.check_put((3, ()), [1, 3, 2], [1, 3, 2])

    def test_equal_values(self):
        self.check_put((2, ((0, 1),)), [4, 4], [4, 4])
        self.check_put(LEVELLER, [2, 7, 2, 7], [7, 7, 2, 2])
        self.check_put(LEVELLER, [0, 0, 0, 0], [0, 0, 0, 0])

    def test_below_0_and_of_sixty_figures(self):
        self.check_put((2, ((0, 1),)), [-2, -1], [-1, -2])
        self.check_put((2, ((0, 1),)), [-1, 0], [0, -1])
        self.check_put(LEVELLER, [-SIXTY, SIXTY, SIXTY - 1, 1 - SIXTY], [SIXTY, SIXTY - 1, 1 - SIXTY, -SIXTY])

    def test_each_wicket_in_turn(self):
        self.check_put(LINE, [1, 2, 3, 4], [2, 3, 4, 1])
        self.check_put(LINE, [4, 3, 2, 1], [4, 3, 2, 1])
        self.check_put((4, LINE[1][::-1]), [1, 2, 3, 4], [4, 1, 2, 3])

    def test_great_nets(self):
        drawn = random.Random(15)
        for net in great_nets():
            for most in (1, 5, SIXTY):
                values = [drawn.randint(-most, most) for lane in range(net[0])]
                self.check_put(net, values, put_by_the_words(net, values))


class Falls(unittest.TestCase):
    def test_rows_that_fall(self):
        rows = ([0], [-SIXTY], [2, 1], [1, 1], [0, -1], [5, 5, 2, 2, 2, -1, -1, -SIXTY], [7] * 8, [SIXTY, 0, -1])
        for values in rows:
            with self.subTest(values=values):
                self.assertIs(falls(values), True)

    def test_rows_that_don_t(self):
        rows = ([1, 2], [-1, 0], [-2, -1], [3, 2, 3], [0, 0, 1], [1, 2, 0], [8, 7, 6, 5, 4, 3, 2, 3], [-SIXTY, SIXTY])
        for values in rows:
            with self.subTest(values=values):
                self.assertIs(falls(values), False)

    def test_all_small_rows(self):
        for wide in range(1, 5):
            for values in itertools.product(range(-1, 3), repeat=wide):
                self.assertIs(falls(list(values)), falls_by_the_words(values))


class Orders(OrderCase):
    def test_nets_that_order(self):
        for net in ((1, ()), (2, ((0, 1),)), (2, ((1, 0), (0, 1))), LEVELLER, (3, ((0, 1), (1, 2), (0, 1)))):
            with self.subTest(net=net):
                self.check_orders(net)

    def test_nets_that_don_t(self):
        for net in ((2, ()), (8, ()), (2, ((1, 0),)), LINE, TWISTED, (3, ((0, 1), (1, 2))), (4, LEVELLER[1][:-1])):
            with self.subTest(net=net):
                self.check_not(net)

    def test_just_one_row_that_doesn_t_fall(self):
        self.check_not((3, ((0, 1), (0, 2))))
        self.check_not((8, brick(8)[1][:-1]))
        self.check_not((8, brick(8)[1][1:]))

    def test_brick_orders_of_whatever_wide(self):
        for wide in range(1, 9):
            with self.subTest(wide=wide):
                self.check_orders(brick(wide))

    def test_brick_need_not_level(self):
        self.assertEqual((orders(brick(4)), levels(brick(4))[0]), (("orders",), "not"))

    def test_a_net_that_levels_orders(self):
        for wide in (1, 2, 4, 8):
            self.check_orders(folded(wide)[0])
            self.check_orders(rounds(wide))
        for net in layered_four(3):
            if levels(net) == ("levels",):
                self.check_orders(net)

    def test_small_nets(self):
        for net in small_nets() + great_nets():
            rows = itertools.permutations(range(net[0])) if net[0] < 5 else []
            if orders(net) != ("orders",):
                self.check_not(net)
            for values in rows:
                if orders(net) == ("orders",):
                    self.assertTrue(falls_by_the_words(put_by_the_words(net, values)), (net, values))

    def test_rows_of_a_net_that_orders(self):
        drawn = random.Random(1)
        for net in (brick(8), brick(7), folded(8)[0], rounds(8)):
            for time in range(50):
                values = [drawn.randint(-5, 5) for lane in range(net[0])]
                self.check_put(net, values, sorted(values, reverse=True))
