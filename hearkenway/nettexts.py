"""Nets written as texts."""

from hearkenway.errors import NoText
from hearkenway.nets import need_net

FIGURES = "0123456789"
MOST_FIGURES = 6


def show_net(net):
    """The text of a net."""
    need_net(net)
    many, roads = net
    lines = [f"PLACES {many}"]
    for start, end, cost, late in roads:
        lines.append(f"{start} {end} {cost} {late}")
    return "\n".join(lines)


def read_net(text):
    """The net of a text."""
    if not isinstance(text, str):
        raise NoText("what was handed in as a net's text is no text")
    rows = [line.split(" ") for line in text.split("\n")]
    if not (len(rows[0]) == 2 and rows[0][0] == "PLACES" and is_number(rows[0][1])):
        raise NoText("the first line must be PLACES and a number")
    for row in rows[1:]:
        if not (len(row) == 4 and all(is_number(word) for word in row)):
            raise NoText("each line behind the first must be four numbers with single blanks between")
    net = (int(rows[0][1]), tuple([tuple([int(word) for word in row]) for row in rows[1:]]))
    need_net(net)
    return net


def is_number(word):
    """Whether a word is a number by one to six figures, with no 0 ahead."""
    if not (1 <= len(word) <= MOST_FIGURES and all(figure in FIGURES for figure in word)):
        return False
    return word == "0" or word[0] != "0"
