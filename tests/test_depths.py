"""Point 5: layers, the depth and a longest way."""

import unittest

from evenpass.depths import depth, layers, longest
from tests.samples import LEVELLER, LINE, TWISTED, great_nets, small_nets


def layers_by_the_words(net):
    found = []
    for number, wicket in enumerate(net[1]):
        ahead = [found[k] for k in range(number) if set(net[1][k]) & set(wicket)]
        found.append(1 + max(ahead) if ahead else 1)
    return found


class DepthCase(unittest.TestCase):
    def check_net(self, net):
        wanted = layers_by_the_words(net)
        self.assertEqual(layers(net), wanted)
        self.assertEqual(depth(net), max(wanted) if wanted else 0)
        self.check_way(net, wanted, longest(net))

    def check_way(self, net, layer_of, way):
        self.assertIs(type(way), list)
        self.assertEqual(len(way), max(layer_of) if layer_of else 0)
        for number in way:
            self.assertIs(type(number), int)
            self.assertIn(number, range(len(net[1])))
        self.assertEqual([layer_of[number] for number in way], list(range(1, len(way) + 1)))
        for one, other in zip(way, way[1:]):
            self.assertTrue(set(net[1][one]) & set(net[1][other]), (net, way))


class Told(DepthCase):
    def test_without_wickets(self):
        for wide in range(1, 9):
            with self.subTest(wide=wide):
                self.assertEqual(layers((wide, ())), [])
                self.assertEqual(depth((wide, ())), 0)
                self.assertIs(type(depth((wide, ()))), int)
                self.assertEqual(longest((wide, ())), [])

    def test_one_wicket(self):
        self.assertEqual(layers((2, ((1, 0),))), [1])
        self.assertEqual(depth((2, ((1, 0),))), 1)
        self.assertEqual(longest((2, ((1, 0),))), [0])

    def test_no_lane_in_common(self):
        net = (8, ((0, 1), (7, 6), (2, 3), (5, 4)))
        self.assertEqual(layers(net), [1, 1, 1, 1])
        self.assertEqual(depth(net), 1)
        self.check_net(net)

    def test_the_same_wicket_twice(self):
        net = (3, ((0, 2), (0, 2)))
        self.assertEqual(layers(net), [1, 2])
        self.assertEqual(depth(net), 2)
        self.assertEqual(longest(net), [0, 1])

    def test_the_same_wicket_forty_times(self):
        net = (2, ((0, 1),) * 40)
        self.assertEqual(layers(net), list(range(1, 41)))
        self.assertEqual(depth(net), 40)
        self.assertEqual(longest(net), list(range(40)))

    def test_either_lane_in_common_either_way_round(self):
        for second in ((0, 2), (2, 0), (1, 2), (2, 1), (1, 0)):
            with self.subTest(second=second):
                self.assertEqual(layers((4, ((0, 1), second))), [1, 2])
        self.assertEqual(layers((4, ((0, 1), (3, 2)))), [1, 1])

    def test_one_behind_the_other_along_the_lanes(self):
        self.assertEqual(layers(LINE), [1, 2, 3])
        self.assertEqual(longest(LINE), [0, 1, 2])

    def test_the_greater_layer_of_those_ahead_counts(self):
        net = (4, ((0, 1), (0, 1), (0, 1), (2, 3), (3, 0), (2, 3)))
        self.assertEqual(layers(net), [1, 2, 3, 1, 4, 5])
        self.assertEqual(depth(net), 5)
        self.assertEqual(longest(net), [0, 1, 2, 4, 5])

    def test_a_leveller(self):
        self.assertEqual(layers(LEVELLER), [1, 1, 2, 2, 3, 3])
        self.assertEqual(depth(LEVELLER), 3)
        self.check_net(LEVELLER)

    def test_the_deepest_wicket_is_not_the_last(self):
        net = (5, ((0, 1), (1, 2), (2, 0), (3, 4)))
        self.assertEqual(layers(net), [1, 2, 3, 1])
        self.assertEqual(depth(net), 3)
        self.assertEqual(longest(net), [0, 1, 2])

    def test_dead_ends_beside_the_way(self):
        net = (6, ((0, 1), (2, 3), (3, 4), (4, 5), (0, 1)))
        self.assertEqual(layers(net), [1, 1, 2, 3, 2])
        self.assertEqual(longest(net), [1, 2, 3])
        self.check_net(TWISTED)


class Everywhere(DepthCase):
    def test_small_nets(self):
        for net in small_nets():
            self.check_net(net)

    def test_great_nets(self):
        for net in great_nets():
            self.check_net(net)
