"""Nets and numbers as they are written."""

from evenpass.errors import NoText
from evenpass.nets import makes_net, net_of

FIGURES = "0123456789"
MOST_FIGURES = 60


def show_net(net):
    return str(net[0]) + ":" + "".join([f" {first}-{second}" for first, second in net[1]])


def is_number(word):
    figures = word[1:] if word.startswith("-") else word
    # Python's own isdigit takes signs that are no figures here.
    if not 1 <= len(figures) <= MOST_FIGURES or not all([sign in FIGURES for sign in figures]):
        return False
    return word == "0" or figures[0] != "0"


def number_of(word):
    if not is_number(word):
        raise NoText("no number is written so")
    return int(word)


def wicket_of(word):
    parts = word.partition("-")
    return (number_of(parts[0]), number_of(parts[2]))


def wickets_of(text):
    if text == "":
        return []
    if not text.startswith(" "):
        raise NoText("a blank is lacking ahead of a wicket")
    return [wicket_of(word) for word in text[1:].split(" ")]


def read_net(text):
    if not isinstance(text, str):
        raise NoText("this is no text")
    parts = text.partition(":")
    if parts[1] == "":
        raise NoText("a colon is lacking")
    wide = number_of(parts[0])
    wickets = wickets_of(parts[2])
    if not makes_net(wide, wickets):
        raise NoText("no net is written so")
    return net_of(wide, wickets)
