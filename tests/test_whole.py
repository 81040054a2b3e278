"""Point 3: what holds over the whole program."""

import itertools
import random
import unittest

from evenpass.alike import parted
from evenpass.built import brick, folded, rounds
from evenpass.counts import exits
from evenpass.desk import Desk
from evenpass.errors import TooMany
from evenpass.far import bound, spread
from evenpass.joins import behind, beside, mirrored, slimmed
from evenpass.level import is_level, level_counts
from evenpass.order import falls, orders, put_in_order
from evenpass.papers import shows
from evenpass.shares import uneven
from evenpass.texts import read_net, show_net
from evenpass.verdict import levels
from tests.samples import (
    LEVELLER, LINE, SIXTY, TWISTED, by_the_words, drawn_counts, drawn_net, great_nets, layered_four, small_nets)

LEVEL_NETS = (
    (1, ()), (2, ((0, 1),)), (2, ((1, 0), (0, 1))), LEVELLER, rounds(4), folded(8)[0], rounds(8),
    behind(brick(4), folded(4)[0]), behind(TWISTED, folded(8)[0]))


def numbers_in(text):
    return [] if text == "none" else [int(word) for word in text.split(" ")]


def spaced(things):
    return " ".join(str(thing) for thing in things)


class Crowd:
    """Walkers at a desk's play p, who come and go as they are drawn."""

    def __init__(self, net, seed, backs):
        self.drawn = random.Random(seed)
        self.backs = backs
        self.wide = net[0]
        self.desk = Desk()
        self.desk.say("net a " + show_net(net))
        self.desk.say("play p a")
        self.came = [0] * net[0]
        self.inside = []

    def come(self):
        lane = self.drawn.randrange(self.wide)
        back = self.backs and self.drawn.random() < 0.5
        self.inside.append(int(self.desk.say(f"{'back' if back else 'enter'} p {lane}")))
        self.came[lane] += -1 if back else 1

    def go(self):
        walker = self.drawn.choice(self.inside)
        if self.desk.say(f"step p {walker}").startswith("out"):
            self.inside.remove(walker)

    def go_on(self):
        if self.inside and self.drawn.random() < 0.8:
            self.go()
        else:
            self.come()

    def asked(self, first):
        return numbers_in(self.desk.say(first + " p"))


class AtADesk(unittest.TestCase):
    def test_at_rest_the_counts_are_the_exits_of_how_many_came_in(self):
        nets = small_nets()[::120] + great_nets()[::4] + [LINE, LEVELLER, TWISTED, folded(8)[0], (1, ()), (3, ())]
        for seed, net in enumerate(nets):
            for backs in (False, True):
                crowd = Crowd(net, seed, backs)
                for time in range(3):
                    self.check_until_rest(net, crowd)

    def check_until_rest(self, net, crowd):
        for step in range(60):
            crowd.go_on()
        if crowd.drawn.random() < 0.5:
            crowd.desk.say("rest p")
            crowd.inside = []
        while crowd.inside:
            crowd.go()
        wanted = by_the_words(net, crowd.came)[0]
        self.assertEqual(crowd.asked("counts"), wanted)
        self.assertEqual(crowd.desk.say("exits a " + spaced(crowd.came)), spaced(wanted))

    def test_the_numbers_of_a_net_that_levels(self):
        for seed, net in enumerate(LEVEL_NETS):
            crowd = Crowd(net, seed, False)
            for step in range(150):
                crowd.go_on()
                self.check_numbers_below(crowd)
            crowd.desk.say("rest p")
            self.assertEqual(crowd.asked("stands"), list(range(sum(crowd.came))))
            self.assertEqual((crowd.asked("lacks"), crowd.asked("owes")), ([], []))
            self.assertEqual(crowd.asked("counts"), level_counts(net[0], sum(crowd.came)))

    def check_numbers_below(self, crowd):
        stands = crowd.asked("stands")
        total = sum(crowd.came)
        self.assertLess(max(stands, default=-1), total)
        self.assertEqual(len(set(range(total)) - set(stands)), len(crowd.inside))
        lacks = set(range(max(stands, default=0))) - set(stands)
        self.assertEqual(crowd.asked("lacks"), sorted(lacks))

    def test_the_numbers_of_a_net_that_levels_where_some_take_back(self):
        for seed, net in enumerate(LEVEL_NETS):
            for again in range(4):
                crowd = Crowd(net, 100 * seed + again, True)
                for step in range(80):
                    crowd.go_on()
                crowd.desk.say("rest p")
                total = sum(crowd.came)
                self.assertEqual(crowd.asked("stands"), list(range(total)))
                self.assertEqual(crowd.asked("owes"), list(range(total, 0)))
                self.assertEqual(crowd.asked("lacks"), [])

    def test_some_net_that_does_not_level_leaves_numbers_out(self):
        crowd = Crowd(LINE, 1, False)
        for step in range(200):
            crowd.go_on()
        crowd.desk.say("rest p")
        self.assertNotEqual(crowd.asked("stands"), list(range(sum(crowd.came))))


class Verdicts(unittest.TestCase):
    def test_a_net_levels_or_counts_show_that_it_does_not(self):
        drawn = random.Random(31)
        for net in small_nets()[::11] + great_nets() + layered_four(3)[::40] + list(LEVEL_NETS):
            try:
                told = levels(net)
            except TooMany:
                self.assertIsNone(uneven(net))
                continue
            if told == ("levels",):
                for most in (3, SIXTY):
                    self.assertTrue(is_level(by_the_words(net, drawn_counts(drawn, net[0], most))[0]))
                self.assertTrue(shows(net, ("all",)))
                self.assertEqual(orders(net), ("orders",))
            else:
                self.assertFalse(is_level(by_the_words(net, told[1])[0]))
                self.assertFalse(shows(net, ("all",)))

    def test_nets_that_level_put_rows_in_order(self):
        drawn = random.Random(32)
        for net in LEVEL_NETS:
            self.assertEqual(orders(net), ("orders",))
            for time in range(50):
                values = drawn_counts(drawn, net[0], 4)
                self.assertEqual(put_in_order(net, values), sorted(values, reverse=True))

    def test_a_net_that_orders_and_does_not_level(self):
        for wide in range(3, 9):
            net = brick(wide)
            self.assertEqual((orders(net), levels(net)[0]), (("orders",), "not"))
            self.assertTrue(falls(put_in_order(net, list(range(wide)))))

    def test_what_is_shown_levels(self):
        drawn = random.Random(33)
        paper = folded(8)[1]
        four = beside(brick(4), brick(4))
        for net in (folded(8)[0], behind(four, folded(8)[0]), (8, folded(8)[0][1][:-1]), brick(8), rounds(8), TWISTED):
            for size in range(len(net[1]) + 1):
                if shows(net, paper[:1] + (size,) + paper[2:]):
                    for time in range(100):
                        self.assertTrue(is_level(by_the_words(net, drawn_counts(drawn, 8, 40))[0]))
        self.assertTrue(shows(folded(8)[0], paper))

    def test_no_two_exits_differ_by_more_than_the_bound_and_some_by_the_spread(self):
        drawn = random.Random(34)
        nets = layered_four(2)[::3] + layered_four(3)[::31] + list(LEVEL_NETS)
        for net in [net for net in nets if uneven(net) is None]:
            top, bottom = bound(net)
            for most in (5, SIXTY):
                row = by_the_words(net, drawn_counts(drawn, net[0], most))[0]
                self.assertLessEqual((max(row) - min(row)) * bottom, top)
            try:
                told = spread(net)
            except TooMany:
                continue
            row = by_the_words(net, told[2])[0]
            self.assertEqual(max(row) - min(row), told[1])
            self.assertLessEqual(told[1] * bottom, top)


class PutTogether(unittest.TestCase):
    def said(self, rows):
        desk = Desk()
        for row in rows:
            desk.say(row)
        return desk

    def test_behind_beside_mirrored_and_slimmed_against_counts(self):
        drawn = random.Random(35)
        for time in range(60):
            wide = drawn.randint(1, 4)
            one, other = drawn_net(drawn, wide, 20), drawn_net(drawn, wide, 20)
            desk = self.said([
                "net a " + show_net(one), "net b " + show_net(other), "behind c a b", "beside d a b", "mirror e c",
                "slim f c"])
            for most in (3, SIXTY):
                counts = drawn_counts(drawn, wide, most)
                more = drawn_counts(drawn, wide, most)
                through = desk.say("exits b " + desk.say("exits a " + spaced(counts)))
                self.assertEqual(desk.say("exits c " + spaced(counts)), through)
                self.assertEqual(desk.say("exits f " + spaced(counts)), through)
                beside_each_other = desk.say("exits a " + spaced(counts)) + " " + desk.say("exits b " + spaced(more))
                self.assertEqual(desk.say("exits d " + spaced(counts + more)), beside_each_other)
                turned = spaced(-count for count in counts[::-1])
                back = [-number for number in numbers_in(desk.say("exits e " + turned))[::-1]]
                self.assertEqual(spaced(back), through)

    def test_what_is_shown_may_be_said_again(self):
        drawn = random.Random(36)
        for time in range(60):
            net = drawn_net(drawn, drawn.randint(1, 8), 40)
            desk = self.said(["net a " + show_net(net), "mirror b a", "slim c b"])
            self.assertEqual(read_net(desk.say("show a")), net)
            desk.say("net d " + desk.say("show c"))
            self.assertEqual(read_net(desk.say("show d")), slimmed(mirrored(net)))

    def test_two_that_level_beside_each_other_and_a_net_that_puts_them_together(self):
        desk = self.said([
            "folded a 4", "beside b a a", "net c 8: 0-7 1-6 2-5 3-4 0-2 1-3 4-6 5-7 0-1 2-3 4-5 6-7", "behind d b c",
            "folded e 8"])
        self.assertEqual(desk.say("show d"), desk.say("show e"))
        self.assertEqual(desk.say("spread b"), "uneven")


class AlikeNets(unittest.TestCase):
    def alike_nets(self):
        found = []
        nets = layered_four(2)[::5] + layered_four(3)[::90] + [(2, ((0, 1),)), (2, ((1, 0), (0, 1))), LEVELLER, LINE]
        for net in nets:
            for other in (slimmed(net), mirrored(net), behind(net, (net[0], net[1][-1:])), rounds(2), rounds(4)):
                try:
                    if net[0] == other[0] and parted(net, other) is None and net != other:
                        found.append((net, other))
                except TooMany:
                    pass
        return found

    def answer(self, call, net):
        try:
            return call(net)
        except TooMany:
            return None

    def test_verdicts_bounds_and_spreads(self):
        pairs = self.alike_nets()
        self.assertGreater(len(pairs), 30)
        self.assertTrue(any(levels(one) == ("levels",) for one, other in pairs))
        for one, other in pairs:
            self.assertEqual(uneven(one), uneven(other))
            self.check_same(self.answer(levels, one), self.answer(levels, other), 1)
            self.check_same(self.answer(spread, one), self.answer(spread, other), 2)
            self.check_bounds(one, other)

    def check_same(self, told, wanted, size):
        if told is not None and wanted is not None:
            self.assertEqual(told[:size], wanted[:size])

    def check_bounds(self, one, other):
        """The bound of either holds for both."""
        told = self.answer(spread, one)
        if uneven(one) is None and told is not None:
            for top, bottom in (bound(one), bound(other)):
                self.assertLessEqual(told[1] * bottom, top)

    def test_what_parts_two_nets_parts_them_at_a_desk(self):
        drawn = random.Random(37)
        for time in range(60):
            wide = drawn.randint(5, 7)
            desk = Desk()
            desk.say("net a " + show_net(drawn_net(drawn, wide, 40)))
            desk.say("net b " + show_net(drawn_net(drawn, wide, 40)))
            word, blank, numbers = desk.say("alike a b").partition(" ")
            self.assertEqual(word, "no")
            self.assertNotEqual(desk.say("exits a " + numbers), desk.say("exits b " + numbers))

    def test_nets_that_level_are_alike(self):
        level_four = [net for net in layered_four(3) if levels(net) == ("levels",)]
        for one, other in itertools.product(level_four[:8], repeat=2):
            try:
                self.assertIsNone(parted(one, other))
            except TooMany:
                self.assertNotEqual(one[1][:2], other[1][:2])
        for counts in itertools.product(range(5), repeat=4):
            self.assertEqual(len({tuple(exits(net, list(counts))) for net in level_four[:8]}), 1)
