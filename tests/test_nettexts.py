"""Point 24, with 2 for what is told and handed in."""

import random
import unittest

from hearkenway.errors import NoNet, NoText
from hearkenway.nettexts import read_net, show_net
from tests.oracles import full_net, mixed_nets, small_nets
from tests.samples import NET, NO_NETS, NO_ROADS_OF_THREE

TEXT = "PLACES 6\n0 1 4 2\n0 2 1 3\n0 4 3 18\n1 3 2 5\n2 3 7 4\n3 0 0 1\n3 4 9 10\n5 0 1 1\n5 1 1 1"

NO_TEXTS = [
    "",
    " ",
    "\n",
    "PLACES",
    "PLACES ",
    "PLACES\n",
    "PLACES 3\n",
    "\nPLACES 3",
    "PLACES 3\n\n",
    "PLACES 3\n\n0 1 1 1",
    "PLACES 3\n0 1 1 1\n",
    "PLACES 3\n0 1 1 1\n\n0 2 1 1",
    "PLACES 3\n0 1 1 1 0 2 1 1",
    "PLACES 3 0 1 1 1",
    "PLACES 3 \n0 1 1 1",
    " PLACES 3",
    "PLACES  3",
    "PLACES 3 ",
    "PLACES\t3",
    "PLACES3",
    "PLACES\n3",
    "PLACES 3 4",
    "PLACE 3",
    "places 3",
    "Places 3",
    "PLACES three",
    "PLACES PLACES",
    "3",
    "3 PLACES",
    "0 1 1 1",
    "0 1 1 1\nPLACES 3",
    "PLACES 3\nPLACES 3",
    "PLACES 3\n0 1 1",
    "PLACES 3\n0 1 1 1 1",
    "PLACES 3\n 0 1 1 1",
    "PLACES 3\n0 1 1 1 ",
    "PLACES 3\n0  1 1 1",
    "PLACES 3\n0 1  1 1",
    "PLACES 3\n0 1 1  1",
    "PLACES 3\n0,1,1,1",
    "PLACES 3\n0\t1\t1\t1",
    "PLACES 3\n0 1 1 x",
    "PLACES 3\n0 1 1 1\n0 2 1",
    "PLACES 3\r\n0 1 1 1",
    "PLACES 3\r0 1 1 1",
    "PLACES 3\x0b0 1 1 1",
    "PLACES 3\u20280 1 1 1",
    "PLACES\xa03",
    "PLACES 3\n0 1 1\xa01",
    "PLACES 3\n0 1 1 1\x00",
    "PLACES 3\n0 1 1 1#",
]

# Words that are no numbers; those of figures stand for the number that int tells of some of them.
NO_NUMBERS = [
    "",
    "00",
    "01",
    "007",
    "000001",
    "+1",
    "-1",
    "-0",
    "+0",
    "1.0",
    "1.",
    ".1",
    "1e1",
    "0x1",
    "0b1",
    "1_0",
    "1,0",
    "one",
    "a",
    "-",
    "1000000",
    "1234567",
    "0000000",
    "9" * 30,
    "9" * 5000,
    "\u0661",
    "\u0967",
    "\uff11",
    "\xb2",
    "\xbd",
    "\u2460",
    "\u4e00",
    "1\u0661",
]


class ShowNetTest(unittest.TestCase):
    def test_by_hand(self):
        self.assertEqual(show_net((1, ())), "PLACES 1")
        self.assertEqual(show_net((12, ())), "PLACES 12")
        self.assertEqual(show_net(NET), TEXT)
        self.assertEqual(show_net((12, ((10, 11, 1000, 1000),))), "PLACES 12\n10 11 1000 1000")

    def test_what_is_no_net(self):
        no_roads = [(3, (road,)) for road in NO_ROADS_OF_THREE]
        for thing in [*NO_NETS, *no_roads, (3, ((0, 2, 1, 1), (0, 1, 1, 1))), TEXT]:
            with self.subTest(repr(thing)):
                self.assertRaises(NoNet, show_net, thing)


class ReadNetTest(unittest.TestCase):
    def test_by_hand(self):
        self.assertEqual(read_net("PLACES 1"), (1, ()))
        self.assertEqual(read_net("PLACES 12"), (12, ()))
        self.assertEqual(read_net(TEXT), NET)
        self.assertEqual(read_net("PLACES 2\n0 1 0 1\n1 0 1000 1000"), (2, ((0, 1, 0, 1), (1, 0, 1000, 1000))))

    def test_back_and_forth(self):
        for net in [full_net(12, 1000, 1000), *small_nets(3, [(0, 1)]), *mixed_nets(300, 12, 20, 1000, 1000)]:
            self.assertEqual(read_net(show_net(net)), net)
            self.assertEqual(show_net(read_net(show_net(net))), show_net(net))

    def test_what_is_no_text_of_a_net(self):
        for text in NO_TEXTS:
            with self.subTest(repr(text)):
                self.assertRaises(NoText, read_net, text)

    def test_words_that_are_no_numbers(self):
        for word in NO_NUMBERS:
            with self.subTest(repr(word[:20])):
                self.assertRaises(NoText, read_net, f"PLACES {word}")
                for at in range(4):
                    road = ["0", "1", "5", "5"]
                    road[at] = word
                    self.assertRaises(NoText, read_net, "PLACES 3\n" + " ".join(road))
                    self.assertRaises(NoText, read_net, "PLACES 3\n0 1 1 1\n" + " ".join(road))

    def test_numbers_that_make_no_net(self):
        for text in [
            "PLACES 0",
            "PLACES 13",
            "PLACES 999999",
            "PLACES 1\n0 1 1 1",
            "PLACES 3\n0 0 1 1",
            "PLACES 3\n0 3 1 1",
            "PLACES 3\n3 0 1 1",
            "PLACES 3\n0 1 1001 1",
            "PLACES 3\n0 1 1 0",
            "PLACES 3\n0 1 1 1001",
            "PLACES 3\n0 1 999999 1",
            "PLACES 3\n999999 1 1 1",
            "PLACES 3\n0 1 1 1\n0 1 1 1",
            "PLACES 3\n0 1 1 1\n0 1 2 1",
            "PLACES 3\n0 2 1 1\n0 1 1 1",
            "PLACES 3\n1 0 1 1\n0 1 1 1",
        ]:
            with self.subTest(text):
                self.assertRaises(NoNet, read_net, text)

    def test_no_text_goes_ahead_of_no_net(self):
        for text in ["PLACES 0\n", "PLACES 13\n0 1 1", "PLACES 3\n0 0 1 1\n0 01 1 1", "PLACES 99\n0 0 0 0 0"]:
            with self.subTest(text):
                self.assertRaises(NoText, read_net, text)

    def test_one_sign_put_in_left_out_or_changed(self):
        dice = random.Random(36)
        for turn in range(3000):
            at = dice.randrange(len(TEXT) + 1)
            sign = dice.choice("0123456789 \nP-x\t")
            text = TEXT[:at] + dice.choice((sign, "")) + TEXT[at + dice.randrange(2) :]
            try:
                net = read_net(text)
            except (NoText, NoNet):
                self.assertNotEqual(text, TEXT)
            else:
                self.assertEqual(show_net(net), text)

    def test_other_things_than_texts(self):
        for thing in [None, 0, True, b"PLACES 1", [], (), {}, ["PLACES 1"], NET]:
            with self.subTest(repr(thing)):
                self.assertRaises(NoText, read_net, thing)

    def test_the_same_is_told_again(self):
        first = read_net(TEXT)
        self.assertEqual([type(part) for part in (first, *first, first[1][0])], [tuple, int, tuple, tuple])
        self.assertEqual(read_net(TEXT), first)
