"""Points 8, 9, 10: plays; of point 3, what comes out at rest."""

import itertools
import random
import unittest

from evenpass.errors import NetError, NoLane, NoWalker
from evenpass.plays import Play
from tests.samples import LEVELLER, LINE, NO_NUMBERS, TWISTED, by_the_words, great_nets

ONE = (2, ((0, 1),))
TURNED = (2, ((1, 0),))


class Words:
    """A play by the document's words, each walker a dict, looked up anew at each question."""

    def __init__(self, net):
        self.wide, self.wickets = net
        self.shows = [0] * len(self.wickets)
        self.walkers = []
        self.outs = [0] * self.wide

    def enter(self, lane, back=False):
        self.walkers.append({"lane": lane, "behind": -1, "back": back, "number": None})

    def where(self, walker):
        one = self.walkers[walker]
        if one["number"] is not None:
            return ("out", one["lane"], one["number"])
        for wicket in range(one["behind"] + 1, len(self.wickets)):
            if one["lane"] in self.wickets[wicket]:
                return ("before", wicket, one["lane"])
        return ("exit", one["lane"])

    def step(self, walker):
        one = self.walkers[walker]
        place = self.where(walker)
        if place[0] == "before":
            self.pass_by(one, place[1])
        elif one["back"]:
            self.outs[one["lane"]] -= 1
            one["number"] = one["lane"] + self.wide * self.outs[one["lane"]]
        else:
            one["number"] = one["lane"] + self.wide * self.outs[one["lane"]]
            self.outs[one["lane"]] += 1
        return self.where(walker)

    def pass_by(self, one, wicket):
        if one["back"]:
            self.shows[wicket] = 1 - self.shows[wicket]
        one["lane"] = self.wickets[wicket][self.shows[wicket]]
        one["behind"] = wicket
        if not one["back"]:
            self.shows[wicket] = 1 - self.shows[wicket]

    def inside(self):
        return [number for number, one in enumerate(self.walkers) if one["number"] is None]

    def shown(self):
        return [self.wickets[wicket][side] for wicket, side in enumerate(self.shows)]

    def standing(self):
        return sorted(
            lane + self.wide * k for lane in range(self.wide) for k in range(400) if k < self.outs[lane])

    def owed(self):
        return sorted(
            lane + self.wide * k for lane in range(self.wide) for k in range(-400, 0) if k >= self.outs[lane])

    def lacking(self):
        stands = set(self.standing())
        return sorted(set(range(max(stands))) - stands) if stands else []


def whole_state(play):
    walkers = []
    while True:
        try:
            walkers.append(play.where(len(walkers)))
        except NetError:
            break
    return (walkers, play.inside(), play.shown(), play.counts(), play.standing(), play.owed(), play.lacking())


def begun(net, lanes, back=()):
    play = Play(net)
    for lane in lanes:
        play.enter(lane)
    for lane in back:
        play.enter_back(lane)
    return play


class PlayCase(unittest.TestCase):
    def check_place(self, told, wanted):
        self.assertEqual(told, wanted)
        self.assertEqual([type(told)] + [type(thing) for thing in told], [tuple, str] + [int] * (len(told) - 1))

    def check_step(self, play, walker, wanted):
        self.check_place(play.step(walker), wanted)
        self.check_place(play.where(walker), wanted)

    def check_as_words(self, play, words):
        walkers = [words.where(number) for number in range(len(words.walkers))]
        lists = (words.inside(), words.shown(), words.outs, words.standing(), words.owed(), words.lacking())
        told = whole_state(play)
        self.assertEqual(told, (walkers,) + lists)
        for row in told[1:]:
            self.assertEqual({type(row)} | {type(number) for number in row}, {list, int} if row else {list})


class Begins(PlayCase):
    def test_no_walkers_and_each_wicket_shows_its_first_lane(self):
        for net in [ONE, TURNED, LINE, LEVELLER, TWISTED, (1, ()), (5, ())]:
            with self.subTest(net=net):
                play = Play(net)
                self.assertEqual(play.inside(), [])
                self.assertEqual(play.shown(), [first for first, second in net[1]])
                self.assertEqual(play.counts(), [0] * net[0])
                self.assertEqual((play.standing(), play.owed(), play.lacking()), ([], [], []))

    def test_walkers_are_numbered_from_0_as_they_come_in(self):
        play = Play(LEVELLER)
        self.assertEqual([play.enter(3), play.enter_back(3), play.enter(0), play.enter_back(1)], [0, 1, 2, 3])
        play.rest()
        self.assertEqual([play.enter_back(2), play.enter(2)], [4, 5])
        self.assertEqual(play.inside(), [4, 5])
        self.assertEqual([type(walker) for walker in play.inside()], [int, int])

    def test_the_wicket_of_the_least_number_that_has_the_lane(self):
        play = Play((5, ((0, 1), (2, 1), (2, 3), (3, 0))))
        places = [("before", 0, 0), ("before", 0, 1), ("before", 1, 2), ("before", 2, 3), ("exit", 4)]
        for lane, wanted in enumerate(places):
            self.check_place(play.where(play.enter(lane)), wanted)
            self.check_place(play.where(play.enter_back(lane)), wanted)


class OneWalker(PlayCase):
    def test_goes_on(self):
        for lane in (0, 1):
            play = Play(ONE)
            self.assertEqual(play.enter(lane), 0)
            self.check_place(play.where(0), ("before", 0, lane))
            self.check_step(play, 0, ("exit", 0))
            self.assertEqual((play.shown(), play.counts(), play.inside()), ([1], [0, 0], [0]))
            self.check_step(play, 0, ("out", 0, 0))
            self.assertEqual((play.shown(), play.counts(), play.inside()), ([1], [1, 0], []))

    def test_takes_back(self):
        for lane in (0, 1):
            play = Play(ONE)
            self.assertEqual(play.enter_back(lane), 0)
            self.check_place(play.where(0), ("before", 0, lane))
            self.check_step(play, 0, ("exit", 1))
            self.assertEqual((play.shown(), play.counts(), play.inside()), ([1], [0, 0], [0]))
            self.check_step(play, 0, ("out", 1, -1))
            self.assertEqual((play.shown(), play.counts(), play.inside()), ([1], [0, -1], []))

    def test_through_a_wicket_whose_first_lane_is_the_greater(self):
        play = begun(TURNED, [0], [0])
        self.check_step(play, 0, ("exit", 1))
        self.assertEqual(play.shown(), [0])
        self.check_step(play, 1, ("exit", 1))
        self.assertEqual(play.shown(), [1])

    def test_takes_back_what_went_on(self):
        play = begun(LEVELLER, [2], [2])
        play.rest()
        self.assertEqual(play.where(0)[1:], play.where(1)[1:])
        self.assertEqual((play.shown(), play.counts()), (Play(LEVELLER).shown(), [0, 0, 0, 0]))

    def test_the_next_wicket_behind_that_has_its_lane(self):
        play = begun(LINE, [0, 0])
        self.check_step(play, 0, ("exit", 0))
        self.check_step(play, 1, ("before", 1, 1))
        self.check_step(play, 1, ("exit", 1))
        self.check_step(play, 1, ("out", 1, 1))

    def test_the_same_wicket_again(self):
        play = begun((2, ((0, 1), (0, 1), (1, 0))), [1])
        for wanted in (("before", 1, 0), ("before", 2, 0), ("exit", 1), ("out", 1, 1)):
            self.check_step(play, 0, wanted)

    def test_without_wickets(self):
        play = begun((3, ()), [2, 2, 0], [1, 2])
        self.check_place(play.where(0), ("exit", 2))
        self.check_step(play, 4, ("out", 2, -1))
        self.check_step(play, 0, ("out", 2, -1))
        self.check_step(play, 1, ("out", 2, 2))
        self.check_step(play, 2, ("out", 0, 0))
        self.check_step(play, 3, ("out", 1, -2))
        self.assertEqual((play.counts(), play.shown(), play.inside()), ([1, -1, 1], [], []))

    def test_one_lane(self):
        play = begun((1, ()), [0, 0], [0])
        play.rest()
        self.assertEqual([play.where(walker) for walker in range(3)], [("out", 0, 0), ("out", 0, 1), ("out", 0, 1)])
        self.assertEqual(play.counts(), [1])

    def test_numbers_handed_out(self):
        play = begun((4, ()), [3, 3, 3], [3, 3, 3, 3])
        play.rest()
        self.assertEqual([play.where(walker)[2] for walker in range(7)], [3, 7, 11, 11, 7, 3, -1])


class OnePastTheOther(PlayCase):
    def test_the_later_walker_first(self):
        play = begun(ONE, [0, 0])
        self.check_step(play, 1, ("exit", 0))
        self.check_step(play, 0, ("exit", 1))
        self.check_step(play, 0, ("out", 1, 1))
        self.assertEqual((play.inside(), play.standing(), play.lacking()), ([1], [1], [0]))
        self.check_step(play, 1, ("out", 0, 0))
        self.assertEqual((play.inside(), play.standing(), play.lacking()), ([], [0, 1], []))

    def test_at_the_exit_who_leaves_first_has_the_lesser_number(self):
        play = begun(ONE, [0, 1, 0])
        for walker in (0, 1, 2):
            play.step(walker)
        self.check_step(play, 2, ("out", 0, 0))
        self.check_step(play, 0, ("out", 0, 2))
        self.check_step(play, 1, ("out", 1, 1))

    def test_one_that_takes_back_ahead_of_one_that_goes_on(self):
        play = begun(ONE, [0], [0])
        self.check_step(play, 1, ("exit", 1))
        self.check_step(play, 0, ("exit", 1))
        self.assertEqual(play.shown(), [0])
        self.check_step(play, 1, ("out", 1, -1))
        self.assertEqual((play.owed(), play.standing()), ([-1], []))
        self.check_step(play, 0, ("out", 1, -1))
        self.assertEqual((play.owed(), play.counts()), ([], [0, 0]))

    def test_a_later_one_comes_in_while_others_are_inside(self):
        play = begun(LEVELLER, [0])
        self.check_step(play, 0, ("before", 2, 0))
        self.assertEqual(play.enter(0), 1)
        self.check_step(play, 1, ("before", 3, 1))
        self.assertEqual(play.enter_back(3), 2)
        self.check_step(play, 2, ("before", 2, 3))
        self.check_step(play, 2, ("before", 5, 3))
        self.check_step(play, 0, ("before", 5, 3))

    def test_drawn_plays_go_by_the_words(self):
        drawn = random.Random(11)
        for net in great_nets() + [ONE, TURNED, (1, ()), (8, ()), (3, ((2, 0),))]:
            play = Play(net)
            words = Words(net)
            for time in range(60):
                self.go_on_as_drawn(drawn, play, words)
            self.check_as_words(play, words)
            play.rest()
            for walker in words.inside():
                while words.where(walker)[0] != "out":
                    words.step(walker)
            self.check_as_words(play, words)

    def go_on_as_drawn(self, drawn, play, words):
        choice = drawn.randrange(8)
        lane = drawn.randrange(words.wide)
        if choice == 0:
            self.assertEqual(play.enter(lane), len(words.walkers))
            words.enter(lane)
        elif choice == 1:
            self.assertEqual(play.enter_back(lane), len(words.walkers))
            words.enter(lane, True)
        elif words.inside():
            walker = drawn.choice(words.inside())
            self.check_place(play.step(walker), words.step(walker))
        if choice < 3:
            self.check_as_words(play, words)

    def test_three_hundred_walkers(self):
        for net in (LEVELLER, TWISTED, (8, ()), (8, ((0, 7),) * 40)):
            play = Play(net)
            came = [0] * net[0]
            for number in range(300):
                lane = number * number % net[0]
                if number % 5 == 4:
                    self.assertEqual(play.enter_back(lane), number)
                else:
                    self.assertEqual(play.enter(lane), number)
                came[lane] += -1 if number % 5 == 4 else 1
            self.assertEqual(play.inside(), list(range(300)))
            for number in range(299, 0, -7):
                play.step(number)
            play.rest()
            self.assertEqual((play.inside(), play.counts()), ([], by_the_words(net, came)[0]))

    def test_three_hundred_walkers_on_the_last_lane(self):
        play = begun((8, ()), [7] * 300)
        play.rest()
        self.assertEqual(play.standing(), list(range(7, 2400, 8)))
        self.assertEqual(play.lacking(), [number for number in range(2399) if number % 8 != 7])


class Refused(PlayCase):
    def check_refused(self, refusal, play, call, things):
        for place, thing in enumerate(things):
            with self.subTest(place=place):
                kept = whole_state(play)
                with self.assertRaises(refusal):
                    call(thing)
                self.assertEqual(whole_state(play), kept)

    def test_no_lane(self):
        for net in (LEVELLER, (4, ())):
            play = begun(net, [0, 3], [2])
            play.step(1)
            no_lanes = NO_NUMBERS + (-1, -4, 4, 5, 10 ** 60, -10 ** 60)
            self.check_refused(NoLane, play, play.enter, no_lanes)
            self.check_refused(NoLane, play, play.enter_back, no_lanes)
            self.assertEqual((play.enter(3), play.enter_back(3)), (3, 4))

    def test_one_lane(self):
        play = Play((1, ()))
        self.check_refused(NoLane, play, play.enter, (1, -1, False, True))
        self.check_refused(NoLane, play, play.enter_back, (1, -1, False, True))

    def test_no_walker(self):
        play = begun(LEVELLER, [0, 3], [2])
        play.step(1)
        no_walkers = NO_NUMBERS + (-1, -3, 3, 4, 10 ** 60, -10 ** 60)
        self.check_refused(NoWalker, play, play.where, no_walkers)
        self.check_refused(NoWalker, play, play.step, no_walkers)

    def test_no_walker_where_there_is_none(self):
        play = Play(LEVELLER)
        self.check_refused(NoWalker, play, play.where, NO_NUMBERS + (-1, 0, 1))
        self.check_refused(NoWalker, play, play.step, NO_NUMBERS + (-1, 0, 1))

    def test_a_step_of_one_that_has_left(self):
        play = begun(ONE, [0, 0], [1])
        for walker in (0, 0, 2, 2):
            play.step(walker)
        self.check_refused(NoWalker, play, play.step, (0, 2))
        self.check_place(play.where(0), ("out", 0, 0))
        play.rest()
        self.check_refused(NoWalker, play, play.step, (0, 1, 2, 3))


class AtRest(PlayCase):
    def ends(self, play):
        """All that may come of a play, in whatever order its walkers go."""
        walkers = play.inside()
        if not walkers:
            return [play]
        found = []
        for walker in walkers:
            other = play.twin()
            other.step(walker)
            found.extend(self.ends(other))
        return found

    def check_all_ways(self, net, lanes, back):
        came = [lanes.count(lane) - back.count(lane) for lane in range(net[0])]
        for play in self.ends(begun(net, lanes, back)):
            self.assertEqual(play.counts(), by_the_words(net, came)[0])

    def test_all_ways_of_some_walkers(self):
        self.check_all_ways(ONE, [0, 1, 1], [0])
        self.check_all_ways(ONE, [], [0, 1, 1])
        self.check_all_ways(LINE, [0, 3], [1])
        self.check_all_ways(LEVELLER, [0, 0], [])
        self.check_all_ways(LEVELLER, [0], [3])
        self.check_all_ways((3, ((2, 0), (1, 2))), [1, 0], [0])

    def test_in_whatever_order_they_come_and_go(self):
        drawn = random.Random(5)
        for net in great_nets():
            play = Play(net)
            came = [0] * net[0]
            for time in range(100):
                lane = drawn.randrange(net[0])
                back = drawn.randrange(3) == 0
                play.enter_back(lane) if back else play.enter(lane)
                came[lane] += -1 if back else 1
                for walker in drawn.sample(play.inside(), len(play.inside()) // 2):
                    play.step(walker)
            while play.inside():
                play.step(drawn.choice(play.inside()))
            self.assertEqual(play.counts(), by_the_words(net, came)[0])

    def test_the_least_first(self):
        play = begun(LEVELLER, [1, 1, 1])
        play.step(1)
        self.assertIs(play.rest(), None)
        other = begun(LEVELLER, [1, 1, 1])
        for walker in (1, 0, 0, 0, 0, 1, 1, 1, 2, 2, 2, 2):
            other.step(walker)
        self.assertEqual(whole_state(play), whole_state(other))
        self.assertEqual(play.inside(), [])

    def test_twice_in_a_row_changes_nothing(self):
        for play in (Play(LEVELLER), begun(LEVELLER, [0, 1, 3], [2]), begun((2, ()), [], [1])):
            self.assertIs(play.rest(), None)
            kept = whole_state(play)
            self.assertIs(play.rest(), None)
            self.assertEqual(whole_state(play), kept)


class Numbers(PlayCase):
    def at_counts(self, wanted):
        play = Play((len(wanted), ()))
        for lane, count in enumerate(wanted):
            for time in range(abs(count)):
                play.enter(lane) if count > 0 else play.enter_back(lane)
        play.rest()
        self.assertEqual(play.counts(), wanted)
        return (play.standing(), play.owed(), play.lacking())

    def test_none(self):
        self.assertEqual(self.at_counts([0, 0, 0]), ([], [], []))
        self.assertEqual(self.at_counts([0]), ([], [], []))

    def test_above_0(self):
        self.assertEqual(self.at_counts([1, 0, 0]), ([0], [], []))
        self.assertEqual(self.at_counts([2, 2, 1]), ([0, 1, 2, 3, 4], [], []))
        self.assertEqual(self.at_counts([0, 0, 1]), ([2], [], [0, 1]))
        self.assertEqual(self.at_counts([0, 2, 1]), ([1, 2, 4], [], [0, 3]))
        self.assertEqual(self.at_counts([3]), ([0, 1, 2], [], []))

    def test_below_0(self):
        self.assertEqual(self.at_counts([0, 0, -1]), ([], [-1], []))
        self.assertEqual(self.at_counts([-1, 0, 0]), ([], [-3], []))
        self.assertEqual(self.at_counts([-1, -2, 0]), ([], [-5, -3, -2], []))
        self.assertEqual(self.at_counts([-2]), ([], [-2, -1], []))

    def test_some_above_and_some_below_0(self):
        self.assertEqual(self.at_counts([2, 0, -1]), ([0, 3], [-1], [1, 2]))
        self.assertEqual(self.at_counts([-2, 2, 0]), ([1, 4], [-6, -3], [0, 2, 3]))
        self.assertEqual(self.at_counts([0, -1, 1, 3]), ([2, 3, 7, 11], [-3], [0, 1, 4, 5, 6, 8, 9, 10]))

    def test_in_a_net_that_levels_as_many_lack_as_are_inside(self):
        drawn = random.Random(2)
        for net in (LEVELLER, ONE, (1, ())):
            play = Play(net)
            for came in range(1, 80):
                play.enter(drawn.randrange(net[0]))
                for time in range(drawn.randrange(8)):
                    if play.inside():
                        play.step(drawn.choice(play.inside()))
                stands = play.standing()
                self.assertTrue(set(stands) <= set(range(came)))
                self.assertEqual(came - len(stands), len(play.inside()))
            play.rest()
            self.assertEqual((play.standing(), play.lacking(), play.owed()), (list(range(79)), [], []))

    def test_in_a_net_that_levels_at_rest_there_is_no_gap(self):
        drawn = random.Random(4)
        for ons, backs in itertools.product(range(7), repeat=2):
            play = Play(LEVELLER)
            for number in drawn.sample(range(ons + backs), ons + backs):
                lane = drawn.randrange(4)
                play.enter(lane) if number < ons else play.enter_back(lane)
            while play.inside():
                play.step(drawn.choice(play.inside()))
            self.assertEqual(play.standing(), list(range(ons - backs)))
            self.assertEqual(play.owed(), list(range(min(0, ons - backs), 0)))
            self.assertEqual(play.lacking(), [])


class Twins(PlayCase):
    def test_stands_as_this_one(self):
        play = begun(LEVELLER, [0, 1, 2], [3, 3])
        for walker in (0, 0, 0, 0, 2, 3, 4):
            play.step(walker)
        other = play.twin()
        self.assertIsInstance(other, Play)
        self.assertIsNot(other, play)
        self.assertEqual(whole_state(other), whole_state(play))
        play.rest()
        other.rest()
        self.assertEqual(whole_state(other), whole_state(play))

    def test_each_goes_its_own_way(self):
        play = begun(LEVELLER, [0, 1], [2])
        play.step(1)
        other = play.twin()
        kept = whole_state(play)
        other.enter(0)
        other.enter_back(1)
        other.step(0)
        other.rest()
        self.assertEqual(whole_state(play), kept)
        changed = whole_state(other)
        self.assertEqual(play.enter_back(3), 3)
        play.rest()
        self.assertEqual(whole_state(other), changed)
        self.assertEqual(play.counts(), by_the_words(LEVELLER, [1, 1, -1, -1])[0])

    def test_who_takes_back_takes_back_in_the_twin(self):
        other = begun(ONE, [], [0]).twin()
        other.rest()
        self.assertEqual(other.counts(), [0, -1])

    def test_a_twin_of_a_twin(self):
        play = begun(LEVELLER, [0, 0], [1])
        one = play.twin()
        one.step(0)
        two = one.twin()
        two.step(1)
        three = two.twin()
        states = [whole_state(each) for each in (play, one, two)]
        self.assertEqual(whole_state(three), states[2])
        three.rest()
        self.assertEqual([whole_state(each) for each in (play, one, two)], states)
        for each in (play, one, two):
            each.rest()
        self.assertEqual(play.counts(), three.counts())

    def test_of_a_play_without_walkers(self):
        play = Play((2, ()))
        other = play.twin()
        self.assertEqual(play.enter(1), 0)
        self.assertEqual(other.inside(), [])
        self.assertEqual(other.enter(0), 0)
        self.assertEqual((play.where(0), other.where(0)), (("exit", 1), ("exit", 0)))

    def test_two_plays_of_one_net_have_nothing_in_common(self):
        one = Play(LEVELLER)
        other = Play(LEVELLER)
        one.enter(0)
        one.rest()
        self.assertEqual(whole_state(other), whole_state(Play(LEVELLER)))


class Own(PlayCase):
    def test_what_is_told_is_the_asker_s_own(self):
        play = begun(LEVELLER, [0, 1, 1, 3], [2, 2, 2])
        for walker in (1, 1, 1, 1, 4, 4, 4, 4):
            play.step(walker)
        kept = whole_state(play)
        for call in (play.inside, play.shown, play.counts, play.standing, play.owed, play.lacking):
            told = call()
            told.append("spoilt")
            told[0] = None
            told.reverse()
            self.assertEqual(whole_state(play), kept)

    def test_what_was_told_stays(self):
        play = begun(LEVELLER, [0, 1, 1, 3], [2])
        told = whole_state(play)
        kept = tuple(list(row) for row in told)
        play.enter(2)
        play.rest()
        self.assertEqual(told, kept)
        self.assertNotEqual(whole_state(play), kept)

    def test_questions_change_nothing(self):
        play = begun(LEVELLER, [0, 1], [2])
        play.step(0)
        kept = whole_state(play)
        play.twin()
        self.assertEqual(whole_state(play), kept)
        self.assertEqual(LEVELLER, (4, ((0, 1), (2, 3), (0, 3), (1, 2), (0, 1), (2, 3))))
