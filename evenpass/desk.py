"""A desk that keeps nets and plays by names, and is told rows."""

from evenpass.alike import parted
from evenpass.built import brick, folded, rounds
from evenpass.counts import exits
from evenpass.depths import depth
from evenpass.errors import NoName, NoRow
from evenpass.far import bound, spread
from evenpass.joins import behind, beside, mirrored, slimmed
from evenpass.order import orders
from evenpass.plays import Play
from evenpass.texts import is_number, read_net, show_net
from evenpass.verdict import levels

SMALL_LETTERS = "abcdefghijklmnopqrstuvwxyz"
LONGEST_NAME = 8


def spaced(things):
    return " ".join([str(thing) for thing in things])


def spaced_or_none(numbers):
    return spaced(numbers) if numbers else "none"


def verdict_words(told):
    return told[0] if len(told) == 1 else spaced([told[0]] + told[1])


# The defs of the rows: each is handed the things that the row's words behind the first one stand for.


def net_by_text(things):
    return read_net(things[1])


def net_by_folded(things):
    return folded(things[1])[0]


def net_by_rounds(things):
    return rounds(things[1])


def net_by_brick(things):
    return brick(things[1])


def net_by_behind(things):
    return behind(things[1], things[2])


def net_by_beside(things):
    return beside(things[1], things[2])


def net_by_mirror(things):
    return mirrored(things[1])


def net_by_slim(things):
    return slimmed(things[1])


def new_play(things):
    return Play(things[1])


def say_rest(things):
    things[0].rest()
    return "ok"


def say_show(things):
    return show_net(things[0])


def say_depth(things):
    return str(depth(things[0]))


def say_exits(things):
    net = things[0]
    counts = things[1:]
    if len(counts) != net[0]:
        raise NoRow("not as many numbers as lanes")
    return spaced(exits(net, counts))


def say_levels(things):
    return verdict_words(levels(things[0]))


def say_orders(things):
    return verdict_words(orders(things[0]))


def say_bound(things):
    told = bound(things[0])
    return "uneven" if told is None else str(told[0]) + "/" + str(told[1])


def say_spread(things):
    told = spread(things[0])
    return "uneven" if told[0] == "uneven" else str(told[1])


def say_alike(things):
    counts = parted(things[0], things[1])
    return "yes" if counts is None else spaced(["no"] + counts)


def say_enter(things):
    return str(things[0].enter(things[1]))


def say_back(things):
    return str(things[0].enter_back(things[1]))


def say_step(things):
    return spaced(things[0].step(things[1]))


def say_counts(things):
    return spaced(things[0].counts())


def say_stands(things):
    return spaced_or_none(things[0].standing())


def say_owes(things):
    return spaced_or_none(things[0].owed())


def say_lacks(things):
    return spaced_or_none(things[0].lacking())


# By the first word: what each of the other words is, and the def that answers.
ROWS = {
    "net": (("new net", "text"), net_by_text),
    "folded": (("new net", "number"), net_by_folded),
    "rounds": (("new net", "number"), net_by_rounds),
    "brick": (("new net", "number"), net_by_brick),
    "behind": (("new net", "net", "net"), net_by_behind),
    "beside": (("new net", "net", "net"), net_by_beside),
    "mirror": (("new net", "net"), net_by_mirror),
    "slim": (("new net", "net"), net_by_slim),
    "play": (("new play", "net"), new_play),
    "rest": (("play",), say_rest),
    "show": (("net",), say_show),
    "depth": (("net",), say_depth),
    "exits": (("net", "number"), say_exits),
    "levels": (("net",), say_levels),
    "orders": (("net",), say_orders),
    "bound": (("net",), say_bound),
    "spread": (("net",), say_spread),
    "alike": (("net", "net"), say_alike),
    "enter": (("play", "number"), say_enter),
    "back": (("play", "number"), say_back),
    "step": (("play", "number"), say_step),
    "counts": (("play",), say_counts),
    "stands": (("play",), say_stands),
    "owes": (("play",), say_owes),
    "lacks": (("play",), say_lacks),
}


def words_of(row):
    if not isinstance(row, str):
        raise NoRow("this is no text")
    words = row.split(" ")
    if words[0] not in ROWS:
        raise NoRow("no row begins so")
    # What stands behind the second blank of such a row is one text, whatever blanks it holds.
    return row.split(" ", 2) if words[0] == "net" else words


def kinds_of(words):
    kinds = ROWS[words[0]][0]
    if words[0] == "exits":
        # More numbers may follow; how many there must be only the net tells.
        return kinds + ("number",) * (len(words) - 1 - len(kinds))
    return kinds


def is_name(word):
    return 1 <= len(word) <= LONGEST_NAME and all([sign in SMALL_LETTERS for sign in word])


def fits(kind, word):
    if kind == "text":
        return True
    return is_number(word) if kind == "number" else is_name(word)


def refuse_unless_fitting(kinds, words):
    if len(words) != len(kinds):
        raise NoRow("too few or too many words")
    for kind, word in zip(kinds, words):
        if not fits(kind, word):
            raise NoRow("a word that can't stand in its place")


def taken_from(shelf, name):
    if name not in shelf:
        raise NoName(name)
    return shelf[name]


class Desk:
    def __init__(self):
        self.nets = {}
        self.plays = {}

    def say(self, row):
        words = words_of(row)
        kinds = kinds_of(words)
        refuse_unless_fitting(kinds, words[1:])
        things = [self.thing_of(kind, word) for kind, word in zip(kinds, words[1:])]
        told = ROWS[words[0]][1](things)
        if kinds[0] == "new net":
            self.nets[words[1]] = told
            return "ok"
        if kinds[0] == "new play":
            self.plays[words[1]] = told
            return "ok"
        return told

    def thing_of(self, kind, word):
        if kind == "net":
            return taken_from(self.nets, word)
        if kind == "play":
            return taken_from(self.plays, word)
        return int(word) if kind == "number" else word
