"""Point 13: papers; of point 3, a net that is shown levels."""

import itertools
import random
import unittest

from evenpass.built import brick, folded, rounds
from evenpass.errors import TooMany
from evenpass.papers import shows
from evenpass.verdict import levels
from tests.samples import LEVELLER, LINE, NO_NUMBERS, SIXTY, Grudging, by_the_words, layered_four, small_nets
from tests.test_depths import layers_by_the_words
from tests.test_level import level_by_the_words

ONE = ("one",)
ALL = ("all",)
TWO = ("halves", 0, (0,), (1,), ONE, ONE)
FOUR = ("halves", 2, (0, 1), (2, 3), TWO, TWO)
# In each half the odd walker comes out on the second lane first.
CROSSED = (4, ((1, 0), (3, 2), (1, 2), (0, 3), (0, 1), (2, 3)))


def level_row(wide, total):
    """Level counts, one walker after the other."""
    row = [0] * wide
    for number in range(total):
        row[number % wide] += 1
    return row


def puts_together(net, one, other):
    deep = max(layers_by_the_words(net), default=0)
    most = len(one) * 2 ** deep
    if most > 32:
        return False

    def came_out(s, t):
        where = dict(zip(one + other, level_row(len(one), s) + level_row(len(other), t)))
        return by_the_words(net, [where[lane] for lane in range(net[0])])[0]

    if not all(level_by_the_words(came_out(s, t)) for s, t in itertools.product(range(most), repeat=2)):
        return False
    return all(len(set(came_out(s, t))) == 1 for s, t in ((most, 0), (0, most)))


def told_to_level(net):
    try:
        return levels(net) == ("levels",)
    except TooMany:
        return False


def shows_by_the_words(net, paper):
    """Of a tuple whose things are of the right kinds."""
    if paper == ONE:
        return net[0] == 1
    if paper == ALL:
        return told_to_level(net)
    word, k, one, other, p, q = paper
    if not 0 <= k <= len(net[1]) or len(one) != len(other) or sorted(one + other) != list(range(net[0])):
        return False
    halves = []
    for half in (one, other):
        place = {lane: number for number, lane in enumerate(half)}
        own = [wicket for wicket in net[1][:k] if set(wicket) <= set(half)]
        halves.append((len(half), tuple((place[first], place[second]) for first, second in own)))
    if sum(len(half[1]) for half in halves) != k:
        return False
    return (puts_together((net[0], net[1][k:]), one, other)
            and shows_by_the_words(halves[0], p) and shows_by_the_words(halves[1], q))


def changed(paper, place, thing):
    return paper[:place] + (thing,) + paper[place + 1:]


def nested(depth, paper, net_lanes):
    for level in range(depth):
        paper = ("halves", 0) + net_lanes + (paper, paper)
    return paper


class PaperCase(unittest.TestCase):
    def check_shown(self, net, paper):
        self.assertIs(shows(net, paper), True, (net, paper))

    def check_not(self, net, paper):
        self.assertIs(shows(net, paper), False)


class OneAndAll(PaperCase):
    def test_one(self):
        self.check_shown((1, ()), ONE)
        for net in ((2, ((0, 1),)), (2, ()), LEVELLER, folded(8)[0]):
            with self.subTest(net=net):
                self.check_not(net, ONE)

    def test_all(self):
        for net in ((1, ()), (2, ((0, 1),)), LEVELLER, CROSSED, rounds(4), (2, ((0, 1),) * 10)):
            with self.subTest(net=net):
                self.check_shown(net, ALL)
        for net in ((2, ()), (2, ((1, 0),)), LINE, brick(3), brick(4), (8, ())):
            with self.subTest(net=net):
                self.check_not(net, ALL)

    def test_all_where_it_would_be_refused(self):
        for net in ((2, ((0, 1),) * 11), folded(8)[0], rounds(8)):
            with self.subTest(net=net):
                self.check_not(net, ALL)


class Halves(PaperCase):
    def test_two_lanes(self):
        self.check_shown((2, ((0, 1),)), TWO)
        self.check_shown((2, ((0, 1),)), ("halves", 0, (1,), (0,), ONE, ONE))
        self.check_shown((2, ((0, 1),)), ("halves", 0, (0,), (1,), ALL, ONE))
        self.check_shown((2, ((1, 0), (0, 1))), TWO)
        self.check_not((2, ((1, 0),)), TWO)
        self.check_not((2, ()), TWO)
        self.check_not((2, ((0, 1), (1, 0))), TWO)

    def test_four_lanes(self):
        self.check_shown(LEVELLER, FOUR)
        self.check_shown(LEVELLER, ("halves", 2, (0, 1), (2, 3), ALL, TWO))
        self.check_shown(LEVELLER, ("halves", 2, (2, 3), (0, 1), TWO, ALL))
        self.check_not(LINE, FOUR)
        self.check_not(brick(4), FOUR)
        self.check_not((4, LEVELLER[1][:-1]), FOUR)
        self.check_not((4, LEVELLER[1][:-1] + ((3, 2),)), FOUR)

    def test_eight_lanes(self):
        net, paper = folded(8)
        self.check_shown(net, paper)
        self.check_shown(net, ("halves", 12, (0, 1, 2, 3), (4, 5, 6, 7), ALL, FOUR))
        self.check_shown(net, ("halves", 12, (4, 5, 6, 7), (0, 1, 2, 3), FOUR, ALL))
        self.check_not(rounds(8), paper)
        self.check_not(brick(8), paper)
        for number in range(24):
            self.check_not((8, net[1][:number] + net[1][number + 1:]), paper)

    def test_one_lane_has_no_halves(self):
        self.check_not((1, ()), TWO)
        self.check_not((1, ()), ("halves", 0, (0,), (), ONE, ONE))
        self.check_not((1, ()), ("halves", 0, (), (0,), ONE, ONE))
        self.check_not((1, ()), ("halves", 0, (), (), ONE, ONE))

    def test_no_halves_of_three_lanes(self):
        for one, other in (((0, 1), (2,)), ((0,), (1, 2)), ((0, 1), (2, 0)), ((0,), (1,))):
            self.check_not(brick(3), ("halves", 0, one, other, ALL, ALL))

    def test_lanes_in_another_order(self):
        self.check_shown(CROSSED, ("halves", 2, (1, 0), (3, 2), TWO, TWO))
        self.check_shown(CROSSED, ("halves", 2, (1, 0), (3, 2), ALL, ALL))
        self.check_shown(CROSSED, ("halves", 2, (3, 2), (1, 0), ALL, TWO))
        self.check_not(CROSSED, FOUR)
        self.check_not(CROSSED, ("halves", 2, (1, 0), (2, 3), ALL, ALL))
        self.check_not(LEVELLER, ("halves", 2, (1, 0), (2, 3), ALL, ALL))
        self.check_not(LEVELLER, ("halves", 2, (0, 2), (1, 3), ALL, ALL))

    def test_the_order_counts_where_the_halves_are_put_together(self):
        behind = ((0, 3), (1, 2), (0, 1), (2, 3))
        self.check_shown((4, ((1, 0), (3, 2)) + behind), ("halves", 2, (1, 0), (3, 2), TWO, TWO))
        self.check_not((4, ((1, 0), (2, 3)) + behind), ("halves", 2, (1, 0), (2, 3), TWO, TWO))
        self.check_not((4, ((0, 1), (3, 2)) + behind), ("halves", 2, (0, 1), (3, 2), TWO, TWO))

    def test_halves_that_lie_between_each_other(self):
        paper = ("halves", 2, (0, 2), (1, 3), TWO, TWO)
        self.check_shown((4, ((0, 2), (1, 3), (0, 3), (1, 2), (0, 1), (2, 3))), paper)
        self.check_not((4, ((0, 2), (1, 3), (0, 3), (2, 1), (0, 1), (2, 3))), paper)

    def test_how_many_wickets_are_within_the_halves(self):
        # Counted from the end, -4 and -1 would be where the halves end.
        for size in (-4, -2, -1, 0, 1, 3, 4, 5, 6, 7, 40, SIXTY, -SIXTY):
            with self.subTest(size=size):
                self.check_not(LEVELLER, changed(FOUR, 1, size))
        for size in (-2, -1, 1, 2, SIXTY, -SIXTY):
            with self.subTest(size=size):
                self.check_not((2, ((0, 1),)), changed(TWO, 1, size))
        for place, thing in enumerate(NO_NUMBERS):
            with self.subTest(place=place):
                self.check_not(LEVELLER, changed(FOUR, 1, thing))
                self.check_not((2, ((0, 1),)), changed(TWO, 1, thing))

    def test_a_wicket_of_the_first_ones_with_a_lane_in_each_half(self):
        self.check_not((4, ((0, 1), (2, 3), (1, 2)) + LEVELLER[1]), ("halves", 3, (0, 1), (2, 3), ALL, ALL))
        self.check_not((4, ((0, 3), (0, 1), (2, 3)) + LEVELLER[1][2:]), ("halves", 3, (0, 1), (2, 3), ALL, ALL))
        self.check_shown((4, ((0, 1), (0, 1), (2, 3)) + LEVELLER[1][2:]), ("halves", 3, (0, 1), (2, 3), ALL, ALL))
        self.check_not((2, ((0, 1),)), ("halves", 1, (0,), (1,), ONE, ONE))

    def test_all_the_wickets_within_the_halves(self):
        self.check_not((4, ((0, 1), (2, 3))), FOUR)
        self.check_not((2, ()), ("halves", 0, (0,), (1,), ONE, ONE))

    def test_papers_that_don_t_show_their_halves(self):
        papers = (ONE, FOUR, changed(TWO, 1, 1), changed(TWO, 4, TWO), changed(TWO, 5, FOUR), None, "all")
        for paper in papers:
            with self.subTest(paper=paper):
                self.check_not(LEVELLER, changed(FOUR, 4, paper))
                self.check_not(LEVELLER, changed(FOUR, 5, paper))
        self.check_not((4, LEVELLER[1][1:]), ("halves", 1, (0, 1), (2, 3), ALL, ALL))
        self.check_not((4, LEVELLER[1][:1] + LEVELLER[1][2:]), ("halves", 1, (0, 1), (2, 3), ALL, ALL))

    def test_32_and_above(self):
        self.check_shown((2, ((0, 1),) * 5), TWO)
        self.check_not((2, ((0, 1),) * 6), TWO)
        self.check_shown((2, ((0, 1),) * 6), ALL)
        again = ((0, 1), (2, 3))
        self.check_shown((4, LEVELLER[1] + again * 2), FOUR)
        self.check_not((4, LEVELLER[1] + again * 3), FOUR)
        self.check_shown((4, LEVELLER[1] + again * 2), ALL)
        net, paper = folded(8)
        self.check_not((8, net[1] + ((0, 1),)), paper)
        self.check_shown((8, ((0, 1),) + net[1]), changed(changed(paper, 1, 13), 4, ALL))


class Lanes(PaperCase):
    def check_never(self, one, other):
        self.check_not(LEVELLER, ("halves", 2, one, other, ALL, ALL))
        self.check_not(LEVELLER, ("halves", 2, other, one, ALL, ALL))

    def test_a_lane_twice_or_missing(self):
        for one, other in (
                ((0, 1), (2, 2)), ((0, 0), (2, 3)), ((0, 1), (1, 2)), ((0, 1), (0, 1)), ((0, 1), ()), ((0, 1), (2,)),
                ((0, 1), (2, 3, 3)), ((0, 1, 1), (2, 3, 3)), ((0, 1, 2), (3, 2, 1)), ((), ()), ((0,), (2,)),
                ((0,) * 100, (1,) * 100)):
            with self.subTest(one=one, other=other):
                self.check_never(one, other)

    def test_unlike_lengths(self):
        self.check_never((0, 1, 2), (3,))
        self.check_never((0, 1, 2, 3), ())
        self.check_never((), (0, 1, 2, 3))
        for size in range(7):
            self.check_not(LEVELLER, ("halves", size, (0, 1, 2, 3), (), ALL, ALL))
            self.check_not(LEVELLER, ("halves", size, (), (0, 1, 2, 3), ALL, ALL))

    def test_no_lanes(self):
        self.check_never((0, 1), (2, 4))
        self.check_never((0, 1), (2, -1))
        self.check_never((-4, 1), (2, 3))
        for place, thing in enumerate(NO_NUMBERS):
            with self.subTest(place=place):
                self.check_never((0, thing), (2, 3))
                self.check_never((thing, 1), (2, 3))
                self.check_never((0, 1), (2, thing))
                self.check_never((thing, thing), (thing, thing))
                self.check_never((0, 1), thing)
                self.check_never(thing, thing)

    def test_truths_are_no_lanes(self):
        self.check_not((2, ((0, 1),)), ("halves", 0, (False,), (True,), ONE, ONE))
        self.check_not((2, ((0, 1),)), ("halves", 0, (0,), (True,), ONE, ONE))
        self.check_never((False, True), (2, 3))

    def test_lists(self):
        self.check_never([0, 1], (2, 3))
        self.check_never((0, 1), [2, 3])
        self.check_never([0, 1], [2, 3])


class Whatever(PaperCase):
    def test_no_papers(self):
        things = NO_NUMBERS + (
            "one", "all", "halves", ["one"], ["all"], list(FOUR), ("One",), ("ONE",), ("one ",), (b"one",), ("ones",),
            ("one", "one"), ("one", None), ("all", "all"), ("all", ()), ("halves",), FOUR[:5], FOUR + (TWO,),
            FOUR + (None,), ("one",) + FOUR[1:], ("all",) + FOUR[1:], (("one",),), (("all",),), ("levels",), ("two",),
            (1,), {"one": "all"}, {"all"}, ((),), (None,), (Grudging(),), (Grudging(),) * 6,
            ("halves",) + (Grudging(),) * 5, 0, 1, 4, -1, SIXTY)
        for net in ((1, ()), (2, ((0, 1),)), LEVELLER, folded(8)[0], (3, ())):
            for place, thing in enumerate(things):
                with self.subTest(net=net, place=place):
                    self.check_not(net, thing)
                    self.check_not(net, (thing, thing))
                    self.check_not(net, [thing])

    def test_things_in_the_place_of_papers(self):
        for place, thing in enumerate(NO_NUMBERS + ("one", "all", ["one"], list(TWO), 0, 1, -1)):
            with self.subTest(place=place):
                for spot in (0, 1, 4, 5):
                    self.check_not(LEVELLER, changed(FOUR, spot, thing))
                self.check_not(LEVELLER, changed(FOUR, 4, changed(TWO, 5, thing)))

    def test_nested_thirty_deep(self):
        self.check_not((2, ((0, 1),)), nested(30, ONE, ((0,), (1,))))
        self.check_not((2, ((0, 1),)), nested(29, ALL, ((0,), (1,))))
        self.check_not((1, ()), nested(30, ONE, ((0,), ())))
        self.check_not((1, ()), nested(30, ONE, ((), ())))
        self.check_not(LEVELLER, nested(30, FOUR, ((0, 1), (2, 3))))
        self.check_not(folded(8)[0], nested(30, FOUR, ((0, 1, 2, 3), (4, 5, 6, 7))))
        self.check_not(LEVELLER, changed(FOUR, 4, nested(27, ONE, ((0,), (1,)))))
        deep = ()
        for level in range(30):
            deep = (deep,)
        self.check_not(LEVELLER, deep)

    def test_forty_wickets(self):
        self.check_not((8, ((0, 1),) * 40), folded(8)[1])
        self.check_not((8, folded(8)[0][1] + ((0, 1),) * 16), folded(8)[1])
        left = ("halves", 11, (0, 1), (2, 3), ALL, TWO)
        right = ("halves", 9, (0, 1), (2, 3), ALL, TWO)
        paper = ("halves", 28, (0, 1, 2, 3), (4, 5, 6, 7), left, right)
        self.check_shown((8, ((0, 1),) * 9 + ((4, 5),) * 7 + folded(8)[0][1]), paper)


class Everywhere(PaperCase):
    def papers(self, size):
        found = []
        for k in range(size + 1):
            for one, other in (((0, 1), (2, 3)), ((1, 0), (2, 3)), ((0, 2), (1, 3)), ((3, 0), (1, 2))):
                found.append(("halves", k, one, other, TWO, ALL))
        return found

    def test_four_lanes_by_the_words(self):
        shown = 0
        for net in layered_four(3)[::3] + [LEVELLER, CROSSED]:
            for paper in self.papers(len(net[1])):
                told = shows(net, paper)
                self.assertIs(told, shows_by_the_words(net, paper), (net, paper))
                shown += told
                if told:
                    self.assertEqual(levels(net), ("levels",))
        self.assertGreater(shown, 3)

    def test_small_nets_by_the_words(self):
        for net in small_nets():
            for paper in (ONE, ALL):
                self.assertIs(shows(net, paper), shows_by_the_words(net, paper))
            if net[0] == 2:
                self.assertIs(shows(net, TWO), shows_by_the_words(net, TWO))

    def test_what_is_shown_levels(self):
        drawn = random.Random(13)
        for net, paper in (folded(4), folded(8), (CROSSED, ("halves", 2, (1, 0), (3, 2), TWO, TWO))):
            self.check_shown(net, paper)
            for most in (1, 3, 50, SIXTY):
                for time in range(100):
                    counts = [drawn.randint(-most, most) for lane in range(net[0])]
                    self.assertTrue(level_by_the_words(by_the_words(net, counts)[0]), (net, counts))

    def test_eight_lanes_by_the_words(self):
        net = folded(8)[0]
        drawn = random.Random(8)
        straight = [list(range(8)), [4, 5, 6, 7, 0, 1, 2, 3]]
        for order in straight + [drawn.sample(range(8), 8) for time in range(40)]:
            within = tuple((order[first], order[second]) for first, second in net[1][:12])
            other_net = (8, within + net[1][12:])
            paper = ("halves", 12, tuple(order[:4]), tuple(order[4:]), FOUR, FOUR)
            self.assertIs(shows(other_net, paper), shows_by_the_words(other_net, paper), order)
            if order in straight:
                self.check_shown(other_net, paper)
