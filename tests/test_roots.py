"""Points 22 and 23, with 2 for what is told and handed in."""

import copy
import itertools
import random
import unittest

from hearkenway.cheapest import cheapest, shows
from hearkenway.errors import NoKept, NoNet, TooMany
from hearkenway.early import is_closed
from hearkenway.nets import is_net
from hearkenway.roots import is_send, mend, next_root, send_net
from tests.oracles import (
    all_dicts,
    full_net,
    keeping,
    lacking,
    least_send_price,
    least_send_price_by_sets,
    mixed_nets,
    price_of,
    reached_from,
    sends_by_words,
    small_nets,
    standing_net,
)
from tests.samples import NET, NO_DICTS, NO_NETS

GREAT = 10**30
# In NET, 2 has fallen. 4 leads nowhere; nobody keeps 9.
KEPT = {0: (0, 1, 2), 1: (0, 1, 5), 3: (0,), 4: (), 5: (5, GREAT)}
WANTS = {3: (0, 1, 5, 9), 4: (0, GREAT), 1: (2,)}
SENDS = {0: {4: 0}, 1: {3: 1}, 2: {1: 0}, 5: {3: 1}, GREAT: {0: 5, 4: 0}}


def drawn_fall(dice, places, wanting, most):
    """(kept, wants): some that stand, so many of them wanting, numbers up to the most."""
    standing = [place for place in range(places) if dice.random() < 0.8] or [0]
    kept = {place: drawn_numbers(dice, most) for place in standing}
    wants = {place: drawn_numbers(dice, most) for place in dice.sample(standing, min(wanting, len(standing)))}
    return kept, wants


def drawn_numbers(dice, most):
    return tuple(number for number in range(most) if dice.random() < 0.4)


class NextRootTest(unittest.TestCase):
    def test_by_hand(self):
        for kept, row, told in [
            ({3: (0, 1)}, [3], (3, 2)),
            ({3: (0, 1), 5: (7,)}, [3], (3, 8)),
            ({3: (0, 1), 5: (7,)}, [5, 3], (5, 8)),
            ({3: (0, 1), 5: (7,)}, [0, 1, 3, 5], (3, 8)),
            ({3: (0, 1), 5: (7,)}, [0, 1, 2], None),
            ({3: (0, 1), 5: (7,)}, [], None),
            ({}, [], None),
            ({}, [0, 1], None),
            ({0: ()}, [0], (0, 0)),
            ({0: (), 4: ()}, [7, 4, 0], (4, 0)),
            ({0: (), 4: (0,)}, [0], (0, 1)),
            ({0: (), 4: (GREAT,)}, [0], (0, GREAT + 1)),
            ({0: (5, 9), 4: (3, 7)}, [4, 4, 0], (4, 10)),
            ({11: (1,)}, [11], (11, 2)),
        ]:
            with self.subTest((kept, row)):
                self.assertEqual(next_root(kept, row), told)

    def test_kinds_and_what_is_handed_in(self):
        kept, row = {3: (0, 1)}, [2, 3]
        self.assertIs(type(next_root(kept, row)), tuple)
        self.assertEqual((kept, row), ({3: (0, 1)}, [2, 3]))


class SendNetTest(unittest.TestCase):
    def test_by_hand(self):
        roads = ((0, 1, 4, 2), (0, 4, 3, 18), (1, 3, 2, 5), (3, 0, 0, 1), (3, 4, 9, 10), (5, 0, 1, 1), (5, 1, 1, 1))
        self.assertEqual(send_net(NET, KEPT, 0), (7, (*roads, (6, 0, 0, 1), (6, 1, 0, 1), (6, 3, 0, 1))))
        self.assertEqual(send_net(NET, KEPT, 5), (7, (*roads, (6, 1, 0, 1), (6, 5, 0, 1))))
        self.assertEqual(send_net(NET, KEPT, GREAT), (7, (*roads, (6, 5, 0, 1))))
        for number in (9, 3, -1, GREAT + 1):
            self.assertEqual(send_net(NET, KEPT, number), (7, roads))

    def test_none_or_one_or_all_stand(self):
        self.assertEqual(send_net(NET, {}, 0), (7, ()))
        self.assertEqual(send_net(NET, {3: (0,)}, 0), (7, ((6, 3, 0, 1),)))
        everybody = {place: () for place in range(6)}
        self.assertEqual(send_net(NET, everybody, 0), (7, NET[1]))
        self.assertEqual(send_net((1, ()), {0: (4,)}, 4), (2, ((1, 0, 0, 1),)))

    def test_drawn(self):
        dice = random.Random(30)
        for places in range(1, 12):
            for net in mixed_nets(200 + places, places, 8, 9, 9):
                kept, wants = drawn_fall(dice, places, 0, 4)
                for number in range(4):
                    told = send_net(net, kept, number)
                    more = tuple((places, place, 0, 1) for place in sorted(keeping(kept, number)))
                    self.assertEqual(told, (places + 1, standing_net(net, kept)[1] + more))
                    self.assertIs(is_net(told), True)


class MendTest(unittest.TestCase):
    def check(self, net, kept, wants, slowly):
        """What is told is as told, each price held against a slow answer."""
        told = mend(net, kept, wants)
        self.assertIs(type(told), tuple)
        numbers = sorted({n for place in wants for n in wants[place] if n not in kept[place]})
        parted = [n for n in numbers if self.is_parted(net, kept, wants, n)]
        if parted:
            self.check_parted(net, kept, wants, parted[0], told)
            return "parted"
        word, sends, lost = told
        self.assertEqual(word, "mended")
        self.assertEqual(lost, [n for n in numbers if not keeping(kept, n)])
        self.assertEqual(list(sends), [n for n in numbers if keeping(kept, n)])
        for number, ahead in sends.items():
            self.assertTrue(sends_by_words(net, kept, wants, number, ahead), (net, kept, wants, number, ahead))
            self.assertIs(is_send(net, kept, wants, number, ahead), True)
            least = slowly(net, kept, wants, number)
            self.assertEqual(price_of(net, ahead), least, (net, kept, wants, number, ahead))
            self.check_shown(net, kept, wants, number, least)
        return "mended"

    def is_parted(self, net, kept, wants, number):
        keepers = keeping(kept, number)
        reached = set().union(*[reached_from(standing_net(net, kept), place) for place in keepers])
        return bool(keepers) and not lacking(kept, wants, number) <= reached

    def check_parted(self, net, kept, wants, number, told):
        word, least, places = told
        self.assertEqual((word, least), ("parted", number))
        self.assertEqual((type(places), list(places)), (tuple, sorted(set(places))))
        self.assertLessEqual(set(places), set(kept))
        self.assertLessEqual(keeping(kept, number), set(places))
        self.assertFalse(lacking(kept, wants, number) <= set(places))
        for i, j, price, late in net[1]:
            self.assertFalse(i in places and j in kept and j not in places)

    def check_shown(self, net, kept, wants, number, least):
        """The table of the net with one place more shows that no send is cheaper."""
        lackers = tuple(sorted(lacking(kept, wants, number)))
        table = cheapest(send_net(net, kept, number), net[0], lackers)[2]
        self.assertIs(shows(send_net(net, kept, number), net[0], lackers, table, least), True)

    def test_by_hand(self):
        self.assertEqual(mend(NET, KEPT, WANTS), ("mended", SENDS, [9]))
        self.assertEqual(self.check(NET, KEPT, WANTS, least_send_price), "mended")

    def test_nothing_wanted_or_lacked(self):
        for kept, wants in [
            ({}, {}),
            (KEPT, {}),
            (KEPT, {3: (), 4: ()}),
            (KEPT, {3: (0,), 0: (1, 2), 5: (GREAT,)}),
            ({2: (0,)}, {2: (0,)}),
        ]:
            self.assertEqual(mend(NET, kept, wants), ("mended", {}, []))

    def test_lost(self):
        self.assertEqual(mend(NET, KEPT, {3: (3, 4, 9), 0: (4, GREAT + 1)}), ("mended", {}, [3, 4, 9, GREAT + 1]))
        self.assertEqual(mend((1, ()), {0: ()}, {0: (7,)}), ("mended", {}, [7]))
        # What only a fallen one kept is lost; 2 has fallen.
        self.assertEqual(mend(NET, {0: (), 1: ()}, {0: (1,)}), ("mended", {}, [1]))

    def test_parted(self):
        self.assertEqual(mend(NET, {0: (4,), 5: ()}, {5: (4,)}), ("parted", 4, (0,)))
        self.assertEqual(mend(NET, {0: (4,), 3: (), 4: ()}, {4: (4,)}), ("mended", {4: {4: 0}}, []))
        # 3 is reached only by those that have fallen.
        self.assertEqual(mend(NET, {0: (4,), 3: (), 4: ()}, {3: (4,), 4: (4,)}), ("parted", 4, (0, 4)))
        self.assertEqual(mend(NET, {**KEPT, 5: ()}, {5: (1,)}), ("parted", 1, (0, 1, 3, 4)))
        # 1 and 2 are parted both, 0 isn't; 9 is lost, which isn't told then.
        kept = {0: (0, 1, 2), 1: (1,), 5: (0,)}
        self.assertEqual(mend(NET, kept, {1: (0, 9), 5: (1, 2)}), ("parted", 1, (0, 1)))
        self.assertEqual(mend(NET, kept, {1: (0, 9), 5: (2,)}), ("parted", 2, (0, 1)))

    def test_a_lost_number_parts_nobody(self):
        self.assertEqual(mend(NET, {0: (), 5: ()}, {5: (4,)}), ("mended", {}, [4]))

    def test_whoever_keeps_it_copies_first(self):
        # 1 and 2 keep it; by roads of price 0 it could come from 1 to 2.
        net = (4, ((0, 1, 0, 1), (1, 2, 0, 1), (2, 1, 0, 1), (2, 3, 0, 1), (1, 3, 7, 1)))
        net = (4, tuple(sorted(net[1])))
        kept = {0: (), 1: (5,), 2: (5,), 3: ()}
        self.assertEqual(mend(net, kept, {3: (5,)}), ("mended", {5: {3: 2}}, []))
        self.assertEqual(mend(net, {**kept, 2: ()}, {3: (5,)}), ("mended", {5: {3: 2, 2: 1}}, []))

    def test_roads_of_price_nought(self):
        dice = random.Random(31)
        for places in range(2, 6):
            for turn in range(25):
                kept, wants = drawn_fall(dice, places, 3, 3)
                self.check(full_net(places, 0), kept, wants, least_send_price)

    def test_all_nets_of_three_places(self):
        for net in small_nets(3, [(0, 1), (2, 1)]):
            for kept, wants in [
                ({0: (0,), 1: (), 2: ()}, {1: (0,), 2: (0,)}),
                ({0: (0,), 1: (0,), 2: ()}, {1: (0,), 2: (0,)}),
                ({0: (0,), 2: ()}, {2: (0,)}),
                ({0: (0, 1), 1: (1,), 2: (2,)}, {0: (2,), 1: (0, 2), 2: (0, 1, 2)}),
            ]:
                self.check(net, kept, wants, least_send_price)

    def test_nets_of_one_to_five_places_against_all_dicts(self):
        dice = random.Random(32)
        words = []
        for places in range(1, 6):
            for net in mixed_nets(210 + places, places, 40, 9, 2):
                kept, wants = drawn_fall(dice, places, dice.randint(0, places), 4)
                words.append(self.check(net, kept, wants, least_send_price))
        self.assertGreater(words.count("mended"), 30)
        self.assertGreater(words.count("parted"), 30)

    def test_nets_of_up_to_eleven_places_against_all_sets(self):
        dice = random.Random(33)
        words = []
        for places in range(6, 12):
            for net in mixed_nets(220 + places, places, 12 if places < 10 else 4, 9, 2):
                kept, wants = drawn_fall(dice, places, dice.randint(1, 6), 3)
                words.append(self.check(net, kept, wants, least_send_price_by_sets))
        self.assertGreater(words.count("mended"), 10)

    def test_six_wants_in_a_net_of_eleven(self):
        net = full_net(11, 3)
        kept = {place: (0,) if place == 10 else () for place in range(11)}
        told = mend(net, kept, {place: (0, 1) for place in range(6)})
        self.assertEqual((told[0], told[2], price_of(net, told[1][0])), ("mended", [1], 18))

    def test_great_numbers(self):
        kept = {0: (GREAT, GREAT + 2), 1: (GREAT + 1,), 3: ()}
        told = mend(NET, kept, {1: (GREAT,), 3: (GREAT + 1, GREAT + 3)})
        self.assertEqual(told, ("mended", {GREAT: {1: 0}, GREAT + 1: {3: 1}}, [GREAT + 3]))

    def test_many_numbers(self):
        kept = {0: tuple(range(3000)), 1: tuple(range(0, 3000, 2)), 3: ()}
        word, sends, lost = mend(NET, kept, {3: tuple(range(3500)), 1: (1,)})
        self.assertEqual((word, lost, list(sends)), ("mended", list(range(3000, 3500)), list(range(3000))))
        self.assertEqual((sends[0], sends[1], sends[3]), ({3: 1}, {3: 1, 1: 0}, {3: 1, 1: 0}))

    def test_only_those_that_stand_copy(self):
        # By 2 it is cheaper, while it stands.
        net = (4, ((0, 1, 9, 1), (0, 2, 1, 1), (1, 3, 9, 1), (2, 3, 1, 1)))
        everybody = {0: (0,), 1: (), 2: (), 3: ()}
        self.assertEqual(mend(net, everybody, {3: (0,)}), ("mended", {0: {3: 2, 2: 0}}, []))
        del everybody[2]
        self.assertEqual(mend(net, everybody, {3: (0,)}), ("mended", {0: {3: 1, 1: 0}}, []))

    def test_what_a_parted_number_leaves_is_closed(self):
        dice = random.Random(34)
        for net in mixed_nets(240, 6, 40, 9, 2):
            kept, wants = drawn_fall(dice, 6, 4, 3)
            told = mend(net, kept, wants)
            if told[0] == "parted":
                keeper = min(keeping(kept, told[1]))
                self.assertIs(is_closed(standing_net(net, kept), keeper, told[2]), True)


class IsSendTest(unittest.TestCase):
    def test_such(self):
        for number, ahead in SENDS.items():
            self.assertIs(is_send(NET, KEPT, WANTS, number, ahead), True)
        # Dearer ones are such, too.
        self.assertIs(is_send(NET, KEPT, WANTS, 0, {4: 3}), True)
        self.assertIs(is_send(NET, KEPT, WANTS, GREAT, {4: 3, 3: 1, 1: 5}), True)

    def test_such_as_are_not(self):
        for number, ahead in [
            # Somebody lacks it who isn't in it.
            (0, {}),
            (1, {}),
            (GREAT, {0: 5}),
            (2, {3: 1}),
            # Somebody has it in vain.
            (1, {3: 1, 4: 3}),
            (1, {3: 1, 4: 0}),
            (GREAT, {0: 5, 4: 0, 1: 5}),
            # One that keeps it is sent it.
            (0, {4: 0, 3: 1}),
            (0, {4: 3, 3: 1}),
            (1, {3: 1, 1: 0}),
            (5, {3: 1, 1: 5}),
            # There is no such road, or it is turned about.
            (1, {3: 0}),
            (0, {4: 1}),
            (0, {4: 5}),
            # From or to a fallen place.
            (1, {3: 2}),
            (1, {3: 2, 2: 0}),
            (1, {3: 1, 2: 0}),
            # It doesn't come from one that keeps it.
            (GREAT, {4: 0}),
            (GREAT, {4: 3, 3: 1}),
            (GREAT, {4: 3, 3: 1, 1: 0}),
            (GREAT, {4: 0, 0: 3, 3: 1, 1: 0}),
            # The place more is none of the net.
            (1, {3: 6}),
            (0, {4: 0, 6: 0}),
            (0, {4: 0, 0: 6}),
            (GREAT, {0: 5, 4: 0, 5: 6}),
            (0, {4: -1}),
            (0, {4: 0, GREAT: 0}),
        ]:
            with self.subTest((number, ahead)):
                self.assertFalse(sends_by_words(NET, KEPT, WANTS, number, ahead))
                self.assertIs(is_send(NET, KEPT, WANTS, number, ahead), False)

    def test_a_ring(self):
        net = (3, ((0, 1, 1, 1), (1, 2, 1, 1), (2, 1, 1, 1)))
        kept = {0: (0,), 1: (), 2: ()}
        self.assertIs(is_send(net, kept, {2: (0,)}, 0, {1: 2, 2: 1}), False)
        self.assertIs(is_send(net, kept, {1: (0,), 2: (0,)}, 0, {1: 2, 2: 1}), False)
        self.assertIs(is_send(net, kept, {2: (0,)}, 0, {1: 0, 2: 1}), True)

    def test_of_a_number_that_nobody_lacks_just_the_empty_one(self):
        for number in (3, 7, -1, GREAT + 1):
            self.assertIs(is_send(NET, KEPT, WANTS, number, {}), True)
            for ahead in [{4: 0}, {3: 1}, {1: 0}, {1: 0, 3: 1}, {6: 0}]:
                self.assertIs(is_send(NET, KEPT, WANTS, number, ahead), False)
        # 0 is kept by 1 and wanted by 1.
        self.assertIs(is_send(NET, KEPT, {1: (0,)}, 0, {}), True)
        self.assertIs(is_send(NET, KEPT, {1: (0,)}, 0, {4: 0}), False)
        self.assertIs(is_send(NET, {}, {}, 0, {}), True)

    def test_a_lost_number_cannot_be_sent(self):
        for ahead in [{}, {3: 1}, {3: 1, 1: 0}, {3: 6}]:
            self.assertIs(is_send(NET, KEPT, WANTS, 9, ahead), False)

    def test_other_kinds(self):
        for ahead in [*NO_DICTS, {4: 0, True: 0}]:
            with self.subTest(repr(ahead)):
                self.assertIs(is_send(NET, KEPT, WANTS, 0, ahead), False)
        self.assertIs(is_send(NET, KEPT, WANTS, 1, {3: True}), False)

    def test_all_dicts_in_nets_of_four_places(self):
        dice = random.Random(35)
        dicts = list(all_dicts(range(4), range(4)))
        held = 0
        for net in mixed_nets(250, 4, 40, 3, 2):
            kept, wants = drawn_fall(dice, 4, 3, 2)
            for ahead, number in itertools.product(dicts, (0, 1)):
                expected = sends_by_words(net, kept, wants, number, ahead)
                self.assertIs(is_send(net, kept, wants, number, ahead), expected, (net, kept, wants, number, ahead))
                held += expected and ahead != {}
        self.assertGreater(held, 40)


NO_KEPT = [
    None,
    0,
    "",
    (),
    [],
    [(0, (1,))],
    {0: None},
    {0: 1},
    {0: [1]},
    {0: "1"},
    {0: {1}},
    {0: (1, 1)},
    {0: (2, 1)},
    {0: (0, 2, 1)},
    {0: (-1,)},
    {0: (-1, 0)},
    {0: (True,)},
    {0: (0, True)},
    {0: (None,)},
    {0: (1.0,)},
    {0: ("1",)},
    {0: ((1,),)},
    {0: (1,), 1: [1]},
    {True: (1,)},
    {False: (1,)},
    {None: (1,)},
    {"0": (1,)},
    {0.0: (1,)},
    {(0,): (1,)},
]
NO_PLACES_KEPT = [{-1: (1,)}, {6: ()}, {0: (), 7: ()}, {GREAT: (1,)}]
# 2 has fallen, and 6 is no place.
NO_WANTS = [*NO_KEPT, {2: (1,)}, {2: ()}, {0: (1,), 2: ()}, {6: ()}, {-1: (0,)}]


class RefusalsTest(unittest.TestCase):
    def refuse(self, error, net, kept, wants):
        with self.subTest((repr(net), repr(kept), repr(wants))):
            self.assertRaises(error, mend, net, kept, wants)
            for number, ahead in [(0, {}), (GREAT, None), (-1, {0: 0})]:
                self.assertRaises(error, is_send, net, kept, wants, number, ahead)

    def test_what_is_no_net_goes_first(self):
        for net in [*NO_NETS, (6, ((0, 2, 1, 1), (0, 1, 1, 1))), (13, ())]:
            for kept, wants in [({}, {}), (None, {}), (KEPT, None), (KEPT, {place: () for place in range(7)})]:
                self.refuse(NoNet, net, kept, wants)
            for kept in ({}, None, KEPT):
                self.assertRaises(NoNet, send_net, net, kept, 0)

    def test_kept(self):
        for kept in NO_KEPT + NO_PLACES_KEPT:
            for wants in ({}, {0: (1,)}, None):
                self.refuse(NoKept, NET, kept, wants)
            with self.subTest(repr(kept)):
                self.assertRaises(NoKept, send_net, NET, kept, 0)

    def test_wants(self):
        for wants in NO_WANTS:
            self.refuse(NoKept, NET, KEPT, wants)

    def test_next_root_of_what_is_not_kept_as_told(self):
        for kept in NO_KEPT:
            with self.subTest(repr(kept)):
                self.assertRaises(NoKept, next_root, kept, [0])

    def test_more_than_six_wants(self):
        net = full_net(11)
        kept = {place: (0,) for place in range(11)}
        for many in (7, 8, 11):
            self.refuse(TooMany, net, kept, {place: () for place in range(many)})
        self.assertEqual(mend(net, kept, {place: () for place in range(6)}), ("mended", {}, []))

    def test_a_net_of_more_than_eleven_places(self):
        net = (12, ((0, 1, 1, 1),))
        self.refuse(TooMany, net, {}, {})
        self.refuse(TooMany, net, {0: (1,), 1: ()}, {1: (1,)})
        self.refuse(TooMany, net, {place: () for place in range(12)}, {place: () for place in range(7)})
        for kept in ({}, {0: (1,)}, {11: ()}):
            self.assertRaises(TooMany, send_net, net, kept, 1)
        self.assertEqual(send_net((11, ()), {10: (1,)}, 1), (12, ((11, 10, 0, 1),)))

    def test_two_at_once(self):
        net = (12, ((0, 1, 1, 1),))
        for kept in [*NO_KEPT, {12: ()}]:
            self.refuse(NoKept, net, kept, {})
            self.assertRaises(NoKept, send_net, net, kept, 0)
        for wants in NO_WANTS[:-5] + [{2: ()}, {12: ()}]:
            self.refuse(NoKept, net, {0: ()}, wants)
        everybody = {place: () for place in range(11)}
        self.refuse(NoKept, full_net(11), everybody, {**everybody, 11: ()})
        self.refuse(NoKept, full_net(11), {place: () for place in range(7)}, {place: () for place in range(1, 9)})
        self.refuse(NoKept, full_net(11), everybody, {place: (1, 0) for place in range(7)})


class HandedInAndToldTest(unittest.TestCase):
    def test_what_is_handed_in_stays(self):
        kept, wants, ahead = dict(KEPT), dict(WANTS), {4: 0}
        mend(NET, kept, wants)
        send_net(NET, kept, 0)
        is_send(NET, kept, wants, 0, ahead)
        is_send(NET, kept, wants, GREAT, ahead)
        next_root(kept, [3])
        self.assertEqual((list(kept.items()), list(wants.items())), (list(KEPT.items()), list(WANTS.items())))
        self.assertEqual(ahead, {4: 0})

    def test_what_is_told_is_the_askers_own(self):
        first = mend(NET, KEPT, WANTS)
        expected = copy.deepcopy(first)
        for ahead in first[1].values():
            ahead[77] = 1
        first[1].pop(0)
        first[2].clear()
        self.assertEqual(mend(NET, KEPT, WANTS), expected)

    def test_sends_that_are_alike_are_several(self):
        sends = mend(NET, {0: (1, 2, 3), 1: ()}, {1: (1, 2, 3)})[1]
        sends[1].clear()
        self.assertEqual(sends, {1: {}, 2: {1: 0}, 3: {1: 0}})
