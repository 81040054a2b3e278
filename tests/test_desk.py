"""Point 22: the desk, its rows and what it refuses."""

import unittest

from evenpass.alike import parted
from evenpass.built import brick, folded, rounds
from evenpass.counts import exits
from evenpass.depths import depth
from evenpass.desk import Desk
from evenpass.errors import NetError, NoLane, NoName, NoNet, NoRow, NoText, NoWalker, TooMany
from evenpass.far import bound, spread
from evenpass.joins import behind, beside, mirrored, slimmed
from evenpass.level import is_level
from evenpass.order import orders
from evenpass.texts import show_net
from evenpass.verdict import levels
from tests.samples import LEVELLER, LINE, NO_NUMBERS, TWISTED, great_nets, layered_four, small_nets

ONE = "2: 0-1"
FOUR = show_net(LEVELLER)
SIXTY_FIGURES = "9" * 60
GREAT = "2:" + " 0-1" * 40

# A row of each kind, each of which a prepared desk answers.
GOOD = (
    "net new 2: 0-1", "folded new 4", "rounds new 8", "brick new 5", "behind new a b", "beside new a b", "mirror new a",
    "slim new a", "play new a", "rest p", "show a", "depth a", "exits a 1 2 3 4", "levels a", "orders a", "bound a",
    "spread a", "alike a b", "enter p 3", "back p 0", "step p 0", "counts p", "stands p", "owes p", "lacks p")


def prepared():
    """A desk with the nets a, b of four lanes and c of two, and the plays p, q with walkers inside and out."""
    desk = Desk()
    rows = ["net a " + FOUR, "net b 4: 0-1 2-3 0-3 1-2 0-1 2-3 0-1", "net c " + ONE, "play p a", "play q c"]
    rows += ["enter p 0", "enter p 1", "enter p 2", "step p 1", "step p 0", "enter q 0", "enter q 1", "back q 0"]
    rows += ["step q 1", "step q 1"]
    for row in rows:
        desk.say(row)
    return desk


def shown(desk, names="abcpq"):
    """All that a desk's rows tell without changing anything, of these names."""
    found = []
    for name in names:
        for first in ("show", "counts", "stands", "owes", "lacks"):
            try:
                found.append(desk.say(first + " " + name))
            except NoName as refusal:
                found.append(refusal.name)
    return found


def spaced(things):
    return " ".join(str(thing) for thing in things)


def verdict_words(told):
    return spaced([told[0]] + sum(told[1:], []))


class DeskCase(unittest.TestCase):
    def check_says(self, desk, *rows):
        """Rows and their answers in turn."""
        for row, wanted in zip(rows[::2], rows[1::2]):
            told = desk.say(row)
            self.assertEqual(told, wanted, row)
            self.assertIs(type(told), str)

    def check_refused(self, refusal, row, desk=None):
        desk = prepared() if desk is None else desk
        before = shown(desk)
        with self.assertRaises(NetError) as caught:
            desk.say(row)
        self.assertIs(type(caught.exception), refusal, row)
        self.assertEqual(shown(desk), before, row)
        return caught.exception

    def check_no_name(self, name, row, desk=None):
        self.assertEqual(self.check_refused(NoName, row, desk).name, name, row)


class Nets(DeskCase):
    def test_net_and_show(self):
        desk = Desk()
        for text in ("1:", "8:", ONE, "2: 1-0", FOUR, GREAT, show_net(TWISTED)):
            self.check_says(desk, "net a " + text, "ok", "show a", text)

    def test_built(self):
        for wide in (1, 2, 4, 8):
            desk = Desk()
            self.check_says(
                desk, f"folded a {wide}", "ok", f"rounds b {wide}", "ok", "show a", show_net(folded(wide)[0]),
                "show b", show_net(rounds(wide)))
        for wide in range(1, 9):
            self.check_says(desk, f"brick a {wide}", "ok", "show a", show_net(brick(wide)))

    def test_behind(self):
        desk = Desk()
        self.check_says(
            desk, "net a 2: 0-1", "ok", "net b 2: 1-0", "ok", "behind c a b", "ok", "show c", "2: 0-1 1-0",
            "behind c b a", "ok", "show c", "2: 1-0 0-1", "behind c a a", "ok", "show c", "2: 0-1 0-1",
            "show a", "2: 0-1", "show b", "2: 1-0")

    def test_beside(self):
        desk = Desk()
        self.check_says(
            desk, "net a 2: 0-1", "ok", "net b 3: 2-0", "ok", "beside c a b", "ok", "show c", "5: 0-1 4-2",
            "beside c b a", "ok", "show c", "5: 2-0 3-4", "show a", "2: 0-1", "show b", "3: 2-0")

    def test_mirror_and_slim(self):
        desk = Desk()
        self.check_says(
            desk, "net a 3: 0-1 1-2 1-2", "ok", "mirror b a", "ok", "show b", "3: 1-2 0-1 0-1",
            "slim c a", "ok", "show c", "3: 0-1 1-2", "slim b b", "ok", "show b", "3: 1-2 0-1",
            "show a", "3: 0-1 1-2 1-2")

    def test_as_the_stages_make_them(self):
        for one, other in ((LINE, LEVELLER), (LEVELLER, LINE), ((4, ()), LINE)):
            desk = Desk()
            self.check_says(
                desk, "net a " + show_net(one), "ok", "net b " + show_net(other), "ok", "behind c a b", "ok",
                "beside d a b", "ok", "mirror e b", "ok", "slim f b", "ok", "show c", show_net(behind(one, other)),
                "show d", show_net(beside(one, other)), "show e", show_net(mirrored(other)),
                "show f", show_net(slimmed(other)))

    def test_the_place_of_what_stood(self):
        desk = prepared()
        for row in ("net a 1:", "folded a 2", "rounds a 4", "brick a 3", "mirror a a", "slim a a"):
            self.check_says(desk, row, "ok")
        self.check_says(desk, "show a", "3: 1-2 0-1 1-2")
        self.check_says(desk, "behind c c c", "ok", "show c", "2: 0-1 0-1", "beside c c c", "ok")
        self.check_says(desk, "show c", "4: 0-1 0-1 2-3 2-3", "behind c b c", "ok")
        self.check_says(desk, "show c", "4: 0-1 2-3 0-3 1-2 0-1 2-3 0-1 0-1 0-1 2-3 2-3")

    def test_names_of_one_and_eight_letters(self):
        desk = Desk()
        for name in ("a", "z", "abcdefgh", "zzzzzzzz", "net", "play", "none", "ok"):
            self.check_says(
                desk, "net " + name + " 1:", "ok", "show " + name, "1:", "play " + name + " " + name, "ok",
                "counts " + name, "0")


class Asks(DeskCase):
    def some_nets(self):
        return small_nets()[::90] + great_nets()[::6] + layered_four(2)[::9] + [LEVELLER, LINE, rounds(4)]

    def answer(self, call, *nets):
        try:
            return call(*nets)
        except TooMany:
            return None

    def check_answer(self, row, told, words):
        """told is what the stage tells, None where it refuses; words the answer that is due."""
        if told is None:
            self.check_refused(TooMany, row, self.desk)
        else:
            self.check_says(self.desk, row, words(told))

    def test_nets(self):
        for net in self.some_nets():
            self.desk = Desk()
            self.check_says(self.desk, "net a " + show_net(net), "ok", "depth a", str(depth(net)))
            self.check_answer("levels a", self.answer(levels, net), verdict_words)
            self.check_answer("orders a", orders(net), verdict_words)
            if bound(net) is None:
                self.check_says(self.desk, "bound a", "uneven", "spread a", "uneven")
            else:
                self.check_says(self.desk, "bound a", "/".join(str(number) for number in bound(net)))
                self.check_answer("spread a", self.answer(spread, net), lambda told: str(told[1]))

    def test_alike(self):
        for net in self.some_nets():
            for other in (slimmed(net), mirrored(net), (net[0], net[1][1:]), (net[0], ())):
                self.desk = Desk()
                self.check_says(self.desk, "net a " + show_net(net), "ok", "net b " + show_net(other), "ok")
                told = self.answer(lambda: parted(net, other) or [])
                self.check_answer("alike a b", told, lambda told: spaced(["no"] + told) if told else "yes")

    def test_depth(self):
        self.check_says(prepared(), "depth a", "3", "depth b", "4", "depth c", "1", "net d 8:", "ok", "depth d", "0")

    def test_levels(self):
        desk = prepared()
        self.check_says(desk, "levels a", "levels", "net d 2: 1-0", "ok", "levels c", "levels")
        words = desk.say("levels d").split(" ")
        self.assertEqual((words[0], len(words)), ("not", 3))
        self.assertFalse(is_level(exits((2, ((1, 0),)), [int(word) for word in words[1:]])))

    def test_orders(self):
        desk = prepared()
        self.check_says(
            desk, "orders a", "orders", "net d 2:", "ok", "orders d", "not 0 1", "brick e 5", "ok",
            "orders e", "orders")

    def test_bound_and_spread(self):
        desk = prepared()
        self.check_says(
            desk, "bound a", "2/1", "spread a", "1", "net d 4:", "ok", "bound d", "uneven", "spread d", "uneven",
            "net e 1:", "ok", "bound e", "0/1", "spread e", "0", "net f 4: 0-1 2-3 0-2 1-3", "ok", "spread f", "2",
            "net g " + show_net((4, (LEVELLER[1] * 7)[:40])), "ok", "bound g", "3/2")

    def test_alike_and_not(self):
        desk = prepared()
        self.check_says(desk, "alike a a", "yes", "net d 2: 1-0", "ok", "alike a b", "yes")
        words = desk.say("alike c d").split(" ")
        self.assertEqual((words[0], len(words)), ("no", 3))
        numbers = " ".join(words[1:])
        self.assertNotEqual(desk.say("exits c " + numbers), desk.say("exits d " + numbers))

    def test_exits(self):
        desk = prepared()
        self.check_says(
            desk, "exits a 5 0 0 2", "2 2 2 1", "exits c -3 0", "-1 -2", "exits c 0 0", "0 0", "net d 1:", "ok",
            "exits d -7", "-7", "net e 8: 0-7", "ok", "exits e 1 2 3 4 5 6 7 8", "5 2 3 4 5 6 7 4")

    def test_exits_of_sixty_figures(self):
        desk = prepared()
        great = 10 ** 60 - 1
        for one, other in ((great, 0), (-great, 0), (great, great), (-great, great - 1), (-great, -great)):
            self.check_says(desk, f"exits c {one} {other}", spaced(exits((2, ((0, 1),)), [one, other])))

    def test_asking_changes_nothing(self):
        desk = prepared()
        before = shown(desk)
        for row in GOOD:
            if row.split(" ")[0] not in ("net", "play", "rest", "enter", "back", "step") and "new" not in row:
                self.assertEqual(desk.say(row), desk.say(row))
                self.assertEqual(shown(desk), before)


class Plays(DeskCase):
    def test_walkers(self):
        desk = Desk()
        self.check_says(
            desk, "net a 2: 0-1", "ok", "play p a", "ok", "enter p 1", "0", "enter p 0", "1", "back p 1", "2",
            "step p 0", "exit 0", "step p 1", "exit 1", "step p 2", "exit 1", "step p 1", "out 1 1",
            "counts p", "0 1", "stands p", "1", "lacks p", "0", "owes p", "none",
            "step p 2", "out 1 1", "counts p", "0 0", "stands p", "none", "lacks p", "none",
            "step p 0", "out 0 0", "counts p", "1 0", "stands p", "0", "lacks p", "none")

    def test_before_a_wicket(self):
        desk = Desk()
        self.check_says(
            desk, "net a " + FOUR, "ok", "play p a", "ok", "enter p 2", "0", "back p 0", "1",
            "step p 0", "before 3 2", "step p 1", "before 3 1", "step p 1", "before 5 2", "step p 1", "exit 3",
            "step p 1", "out 3 -1", "step p 0", "before 5 2", "counts p", "0 0 0 -1", "owes p", "-1")

    def test_rest(self):
        desk = Desk()
        self.check_says(
            desk, "net a " + FOUR, "ok", "play p a", "ok", "rest p", "ok", "counts p", "0 0 0 0", "enter p 3", "0",
            "enter p 3", "1", "enter p 0", "2", "enter p 0", "3", "enter p 0", "4", "rest p", "ok",
            "counts p", "2 1 1 1", "stands p", "0 1 2 3 4", "lacks p", "none", "owes p", "none",
            "rest p", "ok", "counts p", "2 1 1 1")

    def test_owes(self):
        desk = Desk()
        self.check_says(
            desk, "net a 2: 0-1", "ok", "play p a", "ok", "back p 0", "0", "back p 0", "1", "back p 1", "2",
            "counts p", "0 0", "rest p", "ok", "counts p", "-1 -2", "owes p", "-3 -2 -1", "stands p", "none",
            "lacks p", "none")

    def test_lacks(self):
        desk = Desk()
        self.check_says(
            desk, "net a 3:", "ok", "play p a", "ok", "enter p 2", "0", "enter p 2", "1", "rest p", "ok",
            "stands p", "2 5", "lacks p", "0 1 3 4", "owes p", "none", "counts p", "0 0 2")

    def test_the_place_of_what_stood(self):
        desk = prepared()
        self.check_says(
            desk, "play p c", "ok", "counts p", "0 0", "enter p 1", "0", "step p 0", "exit 0", "play p c", "ok",
            "enter p 0", "0", "counts q", "1 0")

    def test_a_play_keeps_its_net(self):
        desk = Desk()
        self.check_says(
            desk, "net a 2: 0-1", "ok", "play p a", "ok", "enter p 1", "0", "net a 4:", "ok", "play q a", "ok",
            "enter p 1", "1", "step p 0", "exit 0", "step p 1", "exit 1", "counts p", "0 0", "counts q", "0 0 0 0",
            "enter q 3", "0", "step q 0", "out 3 3")
        self.check_refused(NoLane, "enter p 2", desk)
        self.check_says(desk, "mirror a a", "ok", "rest p", "ok", "counts p", "1 1", "stands p", "0 1")

    def test_two_plays_of_one_net(self):
        desk = Desk()
        self.check_says(
            desk, "net a 2: 0-1", "ok", "play p a", "ok", "play q a", "ok", "enter p 0", "0", "enter p 0", "1",
            "enter q 0", "0", "step p 0", "exit 0", "step q 0", "exit 0", "step p 1", "exit 1", "rest p", "ok",
            "counts p", "1 1", "counts q", "0 0")

    def test_each_on_its_own_shelf(self):
        desk = Desk()
        self.check_says(desk, "net a 2: 0-1", "ok")
        self.check_no_name("a", "counts a", desk)
        self.check_says(desk, "play a a", "ok", "show a", "2: 0-1", "counts a", "0 0", "enter a 0", "0")
        self.check_says(desk, "net a 3:", "ok", "counts a", "0 0", "show a", "3:", "step a 0", "exit 0")
        self.check_says(desk, "play p a", "ok")
        self.check_no_name("p", "show p", desk)
        self.check_no_name("p", "play q p", desk)

    def test_two_desks(self):
        one, other = Desk(), Desk()
        self.check_says(one, "net a 2: 0-1", "ok", "play p a", "ok", "enter p 0", "0", "step p 0", "exit 0")
        self.check_no_name("a", "show a", other)
        self.check_no_name("p", "counts p", other)
        self.check_says(other, "net a 3:", "ok", "play p a", "ok", "enter p 2", "0", "rest p", "ok")
        self.check_says(one, "show a", "2: 0-1", "counts p", "0 0", "enter p 1", "1", "step p 1", "exit 1")
        self.check_says(other, "show a", "3:", "counts p", "0 0 1")
        self.assertEqual(shown(prepared()), shown(prepared()))


class NoRows(DeskCase):
    def test_each_row_of_the_interface_is_answered(self):
        for row in GOOD:
            prepared().say(row)
        self.assertEqual(len({row.split(" ")[0] for row in GOOD}), 25)

    def test_too_few_words(self):
        for row in GOOD:
            words = row.split(" ")
            for size in range(len(words)):
                if not (words[0] in ("exits", "net") and size > 2):
                    self.check_refused(NoRow, " ".join(words[:size]))

    def test_too_many_words(self):
        for row in GOOD:
            if row.split(" ")[0] not in ("exits", "net"):
                for more in ("a", "p", "0", "1 2"):
                    self.check_refused(NoRow, row + " " + more)

    def test_blanks_ahead_and_behind(self):
        for row in GOOD:
            self.check_refused(NoRow, " " + row)
            if not row.startswith("net "):
                self.check_refused(NoRow, row + " ")
                self.check_refused(NoRow, row + "  ")

    def test_two_blanks_together(self):
        for row in GOOD:
            words = row.split(" ")
            for place in range(1, len(words)):
                if not (words[0] == "net" and place > 1):
                    self.check_refused(NoRow, " ".join(words[:place]) + "  " + " ".join(words[place:]))

    def test_another_first_word(self):
        for row in (
                "", " ", "  ", "a", "nets a 1:", "Net a 1:", "NET a 1:", "put a 1:", "called a b",
                "mirrored b a", "slimmed b a", "standing p", "exit a 1 2 3 4", "enters p 0", "where p 0",
                "inside p", "0", "show\ta", "show\na", "ok", "none", "parted a b", "twin p q", "wide a", "net:",
                "shows a", "owed p", "lacking p", "enter_back p 0"):
            self.check_refused(NoRow, row)

    def test_names_that_are_none(self):
        for name in (
                "", "abcdefghi", "A", "aB", "Ab", "a1", "1", "0", "-", "a-b", "a_b", "_", "a.", "a:", "~",
                "a\t", "\ta", "a\n", "\u00e4", "\u00df", "\u0430", "\uff41", "ab\u0131", "new!"):
            for row in GOOD:
                words = row.split(" ")
                for place in self.names_in(words):
                    changed = words[:place] + [name] + words[place + 1:]
                    self.check_refused(NoRow, " ".join(changed))

    def names_in(self, words):
        """The places of a good row's names: its words of small letters behind the first."""
        return [place for place in range(1, len(words)) if words[place].isalpha()]

    def test_numbers_that_are_none(self):
        for number in (
                "", "00", "01", "007", "-0", "-00", "-01", "+1", "+0", "--1", "-", "+", "1.0", "1e1", "0x1",
                "1_0", "one", "1-", "a", "1,", "\u0661", "\u00b2", "\uff11", "1\t", "\n1", "9" * 61,
                "-" + "9" * 61, "1" + "0" * 60, "0" * 61, "9" * 900):
            for row in GOOD:
                words = row.split(" ")
                for place in range(1, len(words)):
                    if words[place].isdigit() and words[0] != "net":
                        changed = words[:place] + [number] + words[place + 1:]
                        self.check_refused(NoRow, " ".join(changed))

    def test_numbers_of_sixty_figures(self):
        desk = prepared()
        self.check_says(desk, "exits c " + SIXTY_FIGURES + " " + SIXTY_FIGURES, SIXTY_FIGURES + " " + SIXTY_FIGURES)
        self.check_says(desk, f"exits c -{SIXTY_FIGURES} -{SIXTY_FIGURES}", f"-{SIXTY_FIGURES} -{SIXTY_FIGURES}")
        for sign in ("", "-"):
            self.check_refused(NoLane, "enter p " + sign + SIXTY_FIGURES)
            self.check_refused(NoLane, "back p " + sign + SIXTY_FIGURES)
            self.check_refused(NoWalker, "step p " + sign + SIXTY_FIGURES)
            for first in ("folded", "rounds", "brick"):
                self.check_refused(NoNet, first + " new " + sign + SIXTY_FIGURES)

    def test_net_with_nothing_behind_the_second_blank_and_without_it(self):
        self.check_refused(NoText, "net new ")
        self.check_refused(NoRow, "net new")
        self.check_refused(NoRow, "net ")
        self.check_refused(NoRow, "net")
        self.check_refused(NoRow, "net  ")
        self.check_refused(NoRow, "net  1:")

    def test_the_text_of_a_net_has_whatever_words(self):
        for text in (
                " ", "  ", " 1:", "1: ", "1:  ", "2:  0-1", "2: 0-1 ", "x", "x y z", "2: 0-1 x", "2: 0-2",
                "2: 00-1", "01:", "+1:", "9:", "2:" + " 0-1" * 41, "a", "4: A-B", "4:\t0-1", "net new 1:",
                "9" * 61 + ":"):
            self.check_refused(NoText, "net new " + text)
            self.check_refused(NoText, "net a " + text)

    def test_what_is_no_text(self):
        things = [thing for thing in NO_NUMBERS if not isinstance(thing, str)]
        for thing in things + [0, 1, b"show a", ["show a"], ["show", "a"], ("show", "a"), bytearray(b"rest p"), Desk]:
            self.check_refused(NoRow, thing)

    def test_another_count_of_numbers_at_exits(self):
        for row in (
                "exits a 1", "exits a 1 2 3", "exits a 1 2 3 4 5", "exits c 1", "exits c 1 2 3",
                "exits a" + " 1" * 90):
            self.check_refused(NoRow, row)
        self.check_refused(NoRow, "exits a")
        self.check_refused(NoRow, "exits a ")


class NoNames(DeskCase):
    def test_each_name_that_must_stand(self):
        for row in GOOD:
            words = row.split(" ")
            for place in range(1, len(words)):
                if words[place] in ("a", "b", "p"):
                    changed = words[:place] + ["lacking"] + words[place + 1:]
                    self.check_no_name("lacking", " ".join(changed))

    def test_the_first_and_the_second_name(self):
        for first in ("behind new", "beside new", "alike"):
            self.check_no_name("x", first + " x y")
            self.check_no_name("y", first + " y x")
            self.check_no_name("x", first + " x a")
            self.check_no_name("y", first + " a y")
            self.check_no_name("zzzzzzzz", first + " zzzzzzzz zzzzzzzz")

    def test_the_new_name_need_not_stand(self):
        for row in ("mirror new x", "slim new x", "play new x", "behind new x a", "beside new x a"):
            self.check_no_name("x", row)
        for row in ("mirror x x", "slim x x", "play x x", "behind x x x"):
            self.check_no_name("x", row)

    def test_on_the_other_shelf_it_does_not_stand(self):
        for row in (
                "show p", "depth p", "levels p", "orders p", "bound p", "spread p", "exits p 1 2 3 4", "alike p p",
                "mirror new p", "play new p", "behind new p a", "behind new a p"):
            self.check_no_name("p", row)
        for row in ("rest a", "counts a", "stands a", "owes a", "lacks a", "enter a 0", "back a 0", "step a 0"):
            self.check_no_name("a", row)

    def test_of_a_new_desk(self):
        rows = (("show a", "a"), ("rest p", "p"), ("alike b a", "b"), ("behind a b c", "b"), ("play p a", "a"))
        for row, name in rows:
            self.check_no_name(name, row, Desk())

    def test_the_field_is_the_name_as_it_stands(self):
        refusal = self.check_refused(NoName, "show abcdefgh")
        self.assertEqual((refusal.name, type(refusal.name)), ("abcdefgh", str))


class Stages(DeskCase):
    def test_no_net(self):
        for first in ("folded", "rounds"):
            for wide in (0, -1, 3, 5, 6, 7, 9, 16):
                self.check_refused(NoNet, f"{first} new {wide}")
                self.check_refused(NoNet, f"{first} a {wide}")
        for wide in (0, -1, 9, 10):
            self.check_refused(NoNet, f"brick a {wide}")
        for row in ("behind new a c", "behind a c a", "alike a c", "alike c a"):
            self.check_refused(NoNet, row)
        desk = prepared()
        self.check_says(desk, "net d 5:", "ok", "net e 8:", "ok")
        for row in ("beside new a d", "beside a d a", "beside new e c", "beside new e e"):
            self.check_refused(NoNet, row, desk)

    def test_too_many(self):
        desk = prepared()
        self.check_says(desk, "net g " + GREAT, "ok")
        for row in (
                "levels g", "spread g", "alike g g", "alike c g", "behind new g c", "behind c c g", "beside new g c",
                "beside c c g"):
            self.check_refused(TooMany, row, desk)
        self.check_says(desk, "bound g", "1/1", "orders g", "orders", "depth g", "40", "show g", GREAT)

    def test_no_net_ahead_of_too_many(self):
        desk = prepared()
        self.check_says(desk, "net g " + GREAT, "ok", "net h 8:" + " 0-1" * 40, "ok")
        for row in ("behind new g h", "behind new h g", "beside new g h", "alike g h"):
            self.check_refused(NoNet, row, desk)

    def test_no_text(self):
        for text in ("", "x", "2 0-1", "9:", "2: 0-1 "):
            self.check_refused(NoText, "net a " + text)

    def test_no_lane(self):
        for first in ("enter", "back"):
            for lane in (-1, 4, 5, 8, 10 ** 59):
                self.check_refused(NoLane, f"{first} p {lane}")
            self.check_refused(NoLane, first + " q 2")

    def test_no_walker(self):
        for walker in (-1, 3, 10 ** 59):
            self.check_refused(NoWalker, f"step p {walker}")
        self.check_refused(NoWalker, "step q 1")
        desk = prepared()
        self.check_says(desk, "rest p", "ok")
        for walker in range(3):
            self.check_refused(NoWalker, f"step p {walker}", desk)


class WhichGoesFirst(DeskCase):
    def test_no_row_ahead_of_no_name(self):
        for row in (
                "show x y", "exits x 01 2 3 4", "exits x", "exits x ", "behind A x y", "behind new x Y",
                "behind new x", "alike x", "enter x -0", "enter x", "step x +1", "play x1 x", "exits x 1  2",
                "mirror new x y", "rest x ", "exits x a"):
            self.check_refused(NoRow, row)

    def test_no_name_ahead_of_another_count_at_exits(self):
        for numbers in ("1", "1 2 3 4 5", "1 2 3 4"):
            self.check_no_name("x", "exits x " + numbers)

    def test_no_name_ahead_of_the_stages(self):
        for row in (
                "enter x 99", "back x -1", "step x 99", "behind new x c", "behind new c x", "alike c x",
                "beside c x x"):
            self.check_no_name("x", row)

    def test_no_row_ahead_of_the_stages(self):
        for row in (
                "folded A 3", "brick new 09", "enter p 99 1", "step p 099", "net A x", "net abcdefghi x",
                "net  x", "behind new a c c", "rounds new 3 ", "net 1 1:", "enter p 4 "):
            self.check_refused(NoRow, row)


class Unchanged(DeskCase):
    def test_refused_rows_between_others_change_nothing(self):
        refused = (
            "net a x", "net a", "folded a 3", "rounds p 5", "brick a 9", "behind a a c", "beside a b x",
            "mirror a x", "slim a x", "play p x", "play P a", "rest x", "rest p q", "enter p 4", "back p 9",
            "step p 77", "step p -1", "enter p 01", "back p", "exits a 1", "show x", "alike a c", "",
            "counts p p", None, 3, ["rest p"])
        rows = (
            "enter p 3", "step p 0", "step p 2", "back p 1", "step p 3", "enter q 0", "step q 0", "step p 1",
            "counts p", "step p 3", "mirror b a", "show b", "rest q", "counts q", "owes q", "rest p",
            "counts p", "stands p", "enter p 0", "play r b", "enter r 0", "step r 0", "step r 0", "slim a b",
            "show a", "lacks p")
        one, other = prepared(), prepared()
        for row in rows:
            for thing in refused:
                with self.assertRaises(NetError):
                    one.say(thing)
            self.assertEqual(one.say(row), other.say(row), row)
            self.assertEqual(shown(one), shown(other))
        for name in ("new", "x"):
            self.check_no_name(name, "show " + name, one)
            self.check_no_name(name, "counts " + name, one)

    def test_a_refused_new_name_does_not_stand(self):
        desk = prepared()
        for row in ("net new x", "folded new 3", "behind new a c", "beside new a x", "mirror new x", "play new x"):
            self.check_refused_whatever(row, desk)
            self.check_no_name("new", "show new", desk)
            self.check_no_name("new", "counts new", desk)

    def check_refused_whatever(self, row, desk):
        with self.assertRaises(NetError):
            desk.say(row)
