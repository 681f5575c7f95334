"""Point 25, with 2 for two desks."""

import itertools
import random
import unittest

from hearkenway.desk import Desk
from hearkenway.errors import NoDeed, NoName, NoNet, NoPlace, NoRow, NoText, NoWays, TooMany
from hearkenway.hearing import Hearing
from hearkenway.nettexts import show_net
from tests.oracles import (
    full_net,
    least_latenesses,
    least_serving_price,
    least_set_prices,
    mixed_nets,
    some_hearers,
)
from tests.samples import UP
from tests.slow_hearing import SlowHearing, drawn_weavings
from tests.test_nettexts import NO_NUMBERS, NO_TEXTS, TEXT

FORK = "PLACES 4\n0 1 3 1\n0 2 4 1\n0 3 4 1\n1 2 2 1\n1 3 2 1"


def row_of_ways(name, up):
    return " ".join(["ways", name, *("-" if entry is None else str(entry) for entry in up)])


def row_of_deed(name, deed):
    return " ".join([deed[0], name, *(str(number) for number in deed[1:])])


def desk_with(*rows):
    desk = Desk()
    for row in rows:
        desk.say(row)
    return desk


class NetRowsTest(unittest.TestCase):
    def test_a_net(self):
        desk = Desk()
        for name in ("a", "z", "net", "early", "abcdefgh", "zzzzzzzz"):
            self.assertEqual(desk.say(f"net {name}\n{TEXT}"), "ok")
        self.assertEqual(desk.say("net one\nPLACES 1"), "ok")

    def test_early(self):
        desk = desk_with("net n\n" + TEXT)
        for row, answer in [
            ("early n 0 0", "0"),
            ("early n 0 1", "2"),
            ("early n 0 2", "3"),
            ("early n 0 3", "7"),
            ("early n 0 4", "17"),
            ("early n 0 5", "never"),
            ("early n 5 4", "16"),
            ("early n 4 0", "never"),
            ("early n 4 4", "0"),
        ]:
            with self.subTest(row):
                self.assertEqual(desk.say(row), answer)

    def test_cheapest_and_ontime(self):
        desk = desk_with("net n\n" + TEXT, "net fork\n" + FORK)
        for row, answer in [
            ("cheapest fork 0 2 3", "7"),
            ("ontime fork 0 2 3", "8"),
            ("cheapest fork 0 0", "0"),
            ("ontime fork 0 0", "0"),
            ("cheapest fork 0 2", "4"),
            ("cheapest fork 0 0 1 2 3", "7"),
            ("cheapest fork 1 2 3", "4"),
            ("cheapest fork 1 0", "never"),
            ("ontime fork 1 0", "never"),
            ("cheapest n 0 4", "3"),
            ("ontime n 0 4", "15"),
            ("cheapest n 0 4 5", "never"),
            ("ontime n 0 4 5", "never"),
        ]:
            with self.subTest(row):
                self.assertEqual(desk.say(row), answer)

    def test_drawn_nets(self):
        for turn, net in enumerate(mixed_nets(310, 6, 40, 9, 4)):
            desk = desk_with("net n\n" + show_net(net))
            hearers = some_hearers(turn, 6, 6)
            least = least_latenesses(net, 2)
            for place in range(6):
                self.assertEqual(desk.say(f"early n 2 {place}"), str(least.get(place, "never")))
            words = " ".join(str(place) for place in hearers)
            price = least_serving_price(least_set_prices(net, 2), hearers)
            self.assertEqual(desk.say(f"cheapest n 2 {words}"), "never" if price is None else str(price))
            timely = tuple(r for r in net[1] if r[0] in least and least[r[0]] + r[3] == least[r[1]])
            price = least_serving_price(least_set_prices((6, timely), 2), hearers)
            self.assertEqual(desk.say(f"ontime n 2 {words}"), "never" if price is None else str(price))

    def test_told_anew_in_the_elder_ones_place(self):
        desk = desk_with("net n\n" + TEXT)
        self.assertEqual(desk.say("early n 0 1"), "2")
        self.assertEqual(desk.say("net n\nPLACES 2\n0 1 5 9"), "ok")
        self.assertEqual(desk.say("early n 0 1"), "9")
        self.assertRaises(NoPlace, desk.say, "early n 0 2")


class HearingRowsTest(unittest.TestCase):
    def test_by_hand(self):
        desk = Desk()
        for row, answer in [
            ("ways h - 0 1", "ok"),
            ("stays h 2", "none"),
            ("served h 0", "none"),
            ("come h 2", "ok"),
            ("stays h 2", ""),
            ("up h 2", "ok"),
            ("served h 1", "2"),
            ("served h 0", "none"),
            ("up h 1", "ok"),
            ("served h 0", "1"),
            ("emit h", "0"),
            ("emit h", "1"),
            ("down h 1", "ok"),
            ("down h 1", "ok"),
            ("down h 2", "ok"),
            ("stays h 2", "0"),
            ("down h 2", "ok"),
            ("stays h 2", "0,1"),
            ("stays h 1", "none"),
            ("go h 2", "ok"),
            ("stays h 2", "0,1"),
            ("come h 2", "ok"),
            ("stays h 2", "0,1 | "),
            ("go h 2", "ok"),
            ("come h 2", "ok"),
            ("stays h 2", "0,1 |  | "),
            ("come h 0", "ok"),
            ("go h 0", "ok"),
            ("come h 0", "ok"),
            ("stays h 0", " | "),
            ("emit h", "2"),
            ("stays h 0", " | 2"),
        ]:
            with self.subTest(row):
                self.assertEqual(desk.say(row), answer)

    def test_several_that_are_served(self):
        desk = desk_with(row_of_ways("h", UP))
        for place in (4, 0, 3):
            desk.say(f"come h {place}")
            desk.say(f"up h {place}")
        self.assertEqual(desk.say("served h 1"), "0 3 4")

    def test_ways(self):
        desk = Desk()
        for row in ["ways h -", "ways h 1 -", "ways h - 0 0 0 0 0 0 0", "ways h 1 2 3 4 5 6 7 -"]:
            self.assertEqual(desk.say(row), "ok")

    def test_begun_anew_in_the_elder_ones_place(self):
        desk = desk_with("ways h -", "come h 0", "emit h")
        self.assertEqual(desk.say("stays h 0"), "0")
        self.assertEqual(desk.say("ways h -"), "ok")
        self.assertEqual(desk.say("stays h 0"), "none")
        self.assertEqual(desk.say("emit h"), "0")

    def test_drawn_weavings(self):
        for up, deeds in drawn_weavings(37, 8, 40, 80):
            desk, slow = desk_with(row_of_ways("h", up)), SlowHearing(up)
            for deed in deeds:
                slow.do(deed)
                answer = str(slow.told - 1) if deed == ("emit",) else "ok"
                self.assertEqual(desk.say(row_of_deed("h", deed)), answer)
            for place in range(len(up)):
                rows = [",".join(map(str, stay)) for stay in slow.stays[place]]
                self.assertEqual(desk.say(f"stays h {place}"), " | ".join(rows) if rows else "none")
                served = " ".join(map(str, slow.serves(place)))
                self.assertEqual(desk.say(f"served h {place}"), served or "none")


# No rows by their words; where a name or a number is needed there is one, but for what is amiss.
NO_ROWS = [
    "",
    " ",
    "\n",
    "a",
    "help",
    "help a",
    "net",
    "net a",
    "net a ",
    "net\na",
    "net \nPLACES 1",
    "net a \nPLACES 1",
    " net a\nPLACES 1",
    "net  a\nPLACES 1",
    "net a b\nPLACES 1",
    "net a 1\nPLACES 1",
    "net A\nPLACES 1",
    "net a1\nPLACES 1",
    "net a_b\nPLACES 1",
    "net 1\nPLACES 1",
    "net abcdefghi\nPLACES 1",
    "net \xe9\nPLACES 1",
    "net \u0430\nPLACES 1",
    "net \xdf\nPLACES 1",
    "net a\rPLACES 1",
    "net a PLACES 1",
    "NET a\nPLACES 1",
    "Net a\nPLACES 1",
    "nets a\nPLACES 1",
    "\nnet a\nPLACES 1",
    "early",
    "early a",
    "early a 0",
    "early a 0 1 2",
    "early a 0 1 ",
    "early a  0 1",
    "early  a 0 1",
    " early a 0 1",
    "early a 0 -",
    "early a - 1",
    "early a 0 b",
    "early 0 1 a",
    "early A 0 1",
    "early a 0 1\n",
    "early a 0 1\nPLACES 1",
    "early a 0\n1",
    "cheapest",
    "cheapest a",
    "cheapest a ",
    "cheapest a 0 ",
    "cheapest a 0  1",
    "cheapest a 0 1 ",
    "cheapest a 0 -",
    "cheapest a 0 1,2",
    "cheapest a 0 1\n2",
    "cheapest a b",
    "ontime",
    "ontime a",
    "ontime a ",
    "ontime a 0  1",
    "ontime a 0 x",
    "ontime a 0 1\n",
    "on_time a 0 1",
    "ways",
    "ways a",
    "ways a ",
    "ways a  -",
    "ways a - ",
    "ways a --",
    "ways a - None",
    "ways a - -0",
    "ways a -\n",
    "ways a -\n0",
    "ways - 0",
    "come",
    "come a",
    "come a ",
    "come a -",
    "come a 0 1",
    "come a 0 ",
    "come a 0\n",
    "come 0 a",
    "go a",
    "go a -",
    "go a 0 1",
    "up a",
    "up a -",
    "up a 0 1",
    "down a",
    "down a -",
    "down a 0 1",
    "emit",
    "emit ",
    "emit a ",
    "emit a 0",
    "emit 0",
    "emit a\n",
    " emit a",
    "emit  a",
    "emit\ta",
    "emit a\t",
    "EMIT a",
    "stays",
    "stays a",
    "stays a -",
    "stays a 0 1",
    "stays a 0\n",
    "served",
    "served a",
    "served a -",
    "served a 0 1",
    "serves a 0",
    "letters a",
]


class RefusalsTest(unittest.TestCase):
    def setUp(self):
        # Under a stand a net and a Hearing, under n only a net, under h only a Hearing.
        self.desk = desk_with(
            "net a\n" + TEXT, "net n\n" + FORK, row_of_ways("a", UP), "ways h - 0 1", "come h 2", "up h 2", "up h 1"
        )
        self.desk.say("emit h")

    def told(self):
        rows = [f"early {name} {root} {place}" for name in ("a", "n") for root in range(4) for place in range(4)]
        rows += [f"{word} a {place}" for word in ("stays", "served") for place in range(7)]
        rows += [f"{word} h {place}" for word in ("stays", "served") for place in range(3)]
        return [self.desk.say(row) for row in rows]

    def refuse(self, error, row):
        """The row is refused, and nothing is changed."""
        before = self.told()
        with self.subTest(row[:80] if isinstance(row, str) else repr(row)):
            self.assertRaises(error, self.desk.say, row)
        self.assertEqual(self.told(), before)

    def test_no_rows_by_their_words(self):
        for row in NO_ROWS:
            self.refuse(NoRow, row)

    def test_the_words_of_a_row_that_is_one(self):
        for word, rest in [("early", "0 1"), ("cheapest", "0 1"), ("ontime", "0 1"), ("come", "0"), ("stays", "0")]:
            for name in ("A", "aB", "a1", "a-b", "abcdefghi", "0", "", "\xe9", "a\n"):
                self.refuse(NoRow, f"{word} {name} {rest}")
        for word, many in [("early", 2), ("cheapest", 3), ("ontime", 2), ("ways", 2), ("come", 1), ("go", 1)]:
            for at, no_number in itertools.product(range(many), NO_NUMBERS):
                if not (word == "ways" and no_number == "-"):
                    numbers = [str(number) for number in range(many)]
                    numbers[at] = no_number
                    self.refuse(NoRow, " ".join([word, "a", *numbers]))
        for word, no_number in itertools.product(("up", "down", "stays", "served"), NO_NUMBERS):
            self.refuse(NoRow, f"{word} a {no_number}")

    def test_names_under_which_no_such_thing_stands(self):
        for row in ["early {} 0 1", "cheapest {} 0 1", "cheapest {} 0", "ontime {} 0 1", "ontime {} 0"]:
            for name in ("b", "h", "aa", "zzzzzzzz"):
                self.refuse(NoName, row.format(name))
        for row in ["come {} 0", "go {} 0", "up {} 0", "down {} 0", "emit {}", "stays {} 0", "served {} 0"]:
            for name in ("b", "n", "aa", "zzzzzzzz"):
                self.refuse(NoName, row.format(name))

    def test_a_new_desk_has_no_names(self):
        for row in ["early a 0 0", "emit a", "stays a 0"]:
            self.assertRaises(NoName, Desk().say, row)

    def test_what_the_stages_refuse_of_nets(self):
        for text in NO_TEXTS:
            self.refuse(NoText, "net a\n" + text)
            self.refuse(NoText, "net b\n" + text)
        for text in ["PLACES 0", "PLACES 13", "PLACES 3\n0 0 1 1", "PLACES 3\n0 2 1 1\n0 1 1 1"]:
            self.refuse(NoNet, "net a\n" + text)
            self.refuse(NoNet, "net b\n" + text)
        self.refuse(NoName, "early b 0 0")

    def test_what_the_stages_refuse_of_places_and_hearers(self):
        for row in [
            "early a 6 0",
            "early a 0 6",
            "early a 6 6",
            "early a 999999 0",
            "cheapest a 6 1",
            "cheapest a 0 6",
            "cheapest a 0",
            "cheapest a 6",
            "cheapest a 0 2 1",
            "cheapest a 0 1 1",
            "ontime a 6 1",
            "ontime a 0 6",
            "ontime a 0",
            "ontime a 0 2 1",
            "ontime a 0 1 1",
        ]:
            self.refuse(NoPlace, row)

    def test_too_many_hearers(self):
        desk = desk_with("net n\n" + show_net(full_net(12)))
        words = " ".join(str(place) for place in range(7))
        for word in ("cheapest", "ontime"):
            self.assertRaises(TooMany, desk.say, f"{word} n 0 {words}")
            self.assertRaises(NoPlace, desk.say, f"{word} n 12 {words}")
            self.assertRaises(NoPlace, desk.say, f"{word} n 0 {words} 12")
            self.assertRaises(NoRow, desk.say, f"{word} n 0 {words} x")
            self.assertEqual(desk.say(f"{word} n 0 {words[:-2]}"), "5")

    def test_what_the_stages_refuse_of_hearings(self):
        for ways in ["0", "1", "- -", "1 0", "- 2", "- 2 1", "- 999999", "0 1", " ".join(["-", *"00000000"])]:
            self.refuse(NoWays, "ways a " + ways)
            self.refuse(NoWays, "ways b " + ways)
        self.refuse(NoName, "emit b")
        for word in ("come", "go", "up", "down", "stays", "served"):
            self.refuse(NoPlace, f"{word} h 3")
            self.refuse(NoPlace, f"{word} h 999999")
        self.refuse(NoPlace, "up h 0")
        self.refuse(NoPlace, "down h 0")
        for row in ["come h 2", "go h 1", "go h 0", "up h 1", "up h 2", "down h 2"]:
            self.refuse(NoDeed, row)

    def test_two_at_once(self):
        # No row by its words, of a name under which nothing stands, or with what the stages refuse.
        self.refuse(NoRow, "early b 0")
        self.refuse(NoRow, "early b 0 01")
        self.refuse(NoRow, "come b x")
        self.refuse(NoRow, "net A\nPLACES 0")
        self.refuse(NoRow, "net a b\nPLACES")
        self.refuse(NoRow, "cheapest a 9 x")
        self.refuse(NoRow, "ways b 0 x")
        self.refuse(NoRow, "emit b 0")
        # A name under which nothing stands, with what the stages refuse.
        self.refuse(NoName, "early b 99 99")
        self.refuse(NoName, "cheapest b 0")
        self.refuse(NoName, "ontime b 0 2 1")
        self.refuse(NoName, "come b 99")
        self.refuse(NoName, "up b 0")
        self.refuse(NoText, "net a\nPLACES 0\n")

    def test_it_goes_on_behind_a_refusal(self):
        self.refuse(NoDeed, "go h 1")
        self.assertEqual(self.desk.say("emit h"), "1")
        self.assertEqual([self.desk.say("down h 1"), self.desk.say("down h 2"), self.desk.say("stays h 2")], ["ok", "ok", "0"])

    def test_other_things_than_texts(self):
        for row in [None, 0, b"emit a", ["emit", "a"], ("emit", "a"), {}]:
            self.refuse(NoRow, row)


class NamesTest(unittest.TestCase):
    def test_a_net_and_a_hearing_under_one_name(self):
        desk = desk_with("net x\n" + TEXT, "ways x - 0")
        self.assertEqual(desk.say("early x 0 4"), "17")
        self.assertEqual(desk.say("come x 1"), "ok")
        self.assertEqual(desk.say("net x\n" + FORK), "ok")
        self.assertEqual(desk.say("up x 1"), "ok")
        self.assertEqual(desk.say("served x 0"), "1")
        self.assertEqual(desk.say("ways x -"), "ok")
        self.assertEqual(desk.say("cheapest x 0 2 3"), "7")
        self.assertEqual(desk.say("served x 0"), "none")

    def test_words_of_rows_as_names(self):
        desk = desk_with("net net\n" + TEXT, "ways ways - 0", "ways emit -")
        self.assertEqual(desk.say("early net 0 1"), "2")
        self.assertEqual(desk.say("emit ways"), "0")
        self.assertEqual(desk.say("emit emit"), "0")

    def test_hearings_under_several_names(self):
        desk = desk_with("ways a -", "ways b -", "come a 0", "emit a", "emit a", "emit b")
        self.assertEqual((desk.say("stays a 0"), desk.say("stays b 0")), ("0,1", "none"))

    def test_two_desks_by_turns(self):
        one, other = desk_with("net n\n" + TEXT, "ways h -"), desk_with("ways h - 0")
        self.assertRaises(NoName, other.say, "early n 0 0")
        self.assertEqual([one.say("come h 0"), other.say("come h 1")], ["ok", "ok"])
        self.assertEqual([one.say("emit h"), one.say("emit h"), other.say("emit h")], ["0", "1", "0"])
        self.assertEqual([one.say("stays h 0"), other.say("stays h 0")], ["0,1", "none"])
        self.assertEqual(other.say("net n\n" + FORK), "ok")
        self.assertEqual([one.say("early n 0 1"), other.say("early n 0 1")], ["2", "1"])

    def test_each_answer_is_a_text(self):
        desk = desk_with("net n\n" + TEXT)
        for row in ["ways h -", "come h 0", "emit h", "stays h 0", "served h 0", "early n 0 1", "cheapest n 0 1"]:
            self.assertIs(type(desk.say(row)), str)


class WovenRowsTest(unittest.TestCase):
    def test_rows_of_several_hearings_woven(self):
        dice = random.Random(38)
        for turn in range(10):
            weavings = dict(zip("abc", drawn_weavings(400 + turn, 6, 3, 40)))
            desk = desk_with(*(row_of_ways(name, up) for name, (up, deeds) in weavings.items()))
            hearings = {name: Hearing(up) for name, (up, deeds) in weavings.items()}
            left = {name: list(deeds) for name, (up, deeds) in weavings.items()}
            while any(left.values()):
                name = dice.choice([name for name in left if left[name]])
                deed = left[name].pop(0)
                told = hearings[name].do(deed)
                self.assertEqual(desk.say(row_of_deed(name, deed)), "ok" if told is None else str(told))
            for name, (up, deeds) in weavings.items():
                for place in range(len(up)):
                    served = hearings[name].serves(place)
                    self.assertEqual(desk.say(f"served {name} {place}"), " ".join(map(str, served)) or "none")
