"""A desk that is told rows and answers each with a text."""

from hearkenway.cheapest import cheapest
from hearkenway.early import earliest
from hearkenway.errors import NoName, NoRow
from hearkenway.hearing import Hearing
from hearkenway.nets import need_place, price
from hearkenway.nettexts import is_number, read_net
from hearkenway.ontime import cheapest_on_time

# Behind its name, how many words a row has at least and at most; None for any number.
LENGTHS = {
    "net": (0, 0),
    "early": (2, 2),
    "cheapest": (1, None),
    "ontime": (1, None),
    "ways": (1, None),
    "come": (1, 1),
    "go": (1, 1),
    "up": (1, 1),
    "down": (1, 1),
    "emit": (0, 0),
    "stays": (1, 1),
    "served": (1, 1),
}
NET_WORDS = ("early", "cheapest", "ontime")
SMALL_LETTERS = "abcdefghijklmnopqrstuvwxyz"
LONGEST_NAME = 8


class Desk:
    """Nets and Hearings under names, and the answers to rows about them."""

    def __init__(self):
        self.nets = {}
        self.hearings = {}

    def say(self, row):
        """The answer to a row."""
        if not is_row(row):
            raise NoRow("the row is none that a desk takes")
        line, feed, text = row.partition("\n")
        words = line.split(" ")
        word = words[0]
        name = words[1]
        if word == "net":
            self.nets[name] = read_net(text)
            return "ok"
        if word == "ways":
            self.hearings[name] = Hearing(tuple([None if part == "-" else int(part) for part in words[2:]]))
            return "ok"
        numbers = [int(part) for part in words[2:]]
        if word in NET_WORDS:
            return answer_of_net(word, under(self.nets, name), numbers)
        return answer_of_hearing(word, under(self.hearings, name), numbers)


def under(things, name):
    """What stands under a name."""
    if name not in things:
        raise NoName("nothing of the kind asked for stands under this name")
    return things[name]


def is_row(thing):
    """Whether anything at all is a row by its words."""
    if not isinstance(thing, str):
        return False
    line, feed, text = thing.partition("\n")
    words = line.split(" ")
    if len(words) < 2 or words[0] not in LENGTHS or not is_name(words[1]):
        return False
    # Only a net's row has more than one line.
    if (feed != "") != (words[0] == "net"):
        return False
    least, most = LENGTHS[words[0]]
    if len(words) - 2 < least or (most is not None and len(words) - 2 > most):
        return False
    return all(is_number(part) or (part == "-" and words[0] == "ways") for part in words[2:])


def is_name(word):
    return 1 <= len(word) <= LONGEST_NAME and all(letter in SMALL_LETTERS for letter in word)


def answer_of_net(word, net, numbers):
    root = numbers[0]
    if word == "early":
        least = earliest(net, root)
        need_place(net, numbers[1])
        return str(least[numbers[1]]) if numbers[1] in least else "never"
    hearers = tuple(numbers[1:])
    told = cheapest(net, root, hearers) if word == "cheapest" else cheapest_on_time(net, root, hearers)
    return "never" if told[0] == "none" else str(price(net, root, told[1]))


def answer_of_hearing(word, hearing, numbers):
    if word == "stays":
        stays = hearing.stays(numbers[0])
        return " | ".join([",".join([str(number) for number in stay]) for stay in stays]) if stays else "none"
    if word == "served":
        served = hearing.serves(numbers[0])
        return " ".join([str(place) for place in served]) if served else "none"
    number = hearing.do((word, *numbers))
    return "ok" if number is None else str(number)
