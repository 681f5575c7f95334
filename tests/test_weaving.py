"""Points 18 and 19, with 2 for what is told and handed in and 3 for weavings."""

import copy
import itertools
import random
import unittest

from hearkenway.errors import NoDeed, NoPlace, NoWays
from hearkenway.hearing import Hearing
from hearkenway.weaving import are_stays, at_rest, played, rise
from tests.samples import NO_DEEDS, NO_PLACES_OF_UP, NO_WAYS, UP
from tests.slow_hearing import SlowHearing, below_or_at, depth, drawn_weavings, rises_by_one

# 1 hears 0, goes, and comes again; its second graft is under way still.
DEEDS = [
    ("come", 1),
    ("up", 1),
    ("emit",),
    ("down", 1),
    ("come", 0),
    ("emit",),
    ("go", 1),
    ("come", 1),
    ("down", 1),
    ("up", 1),
]
STAYS = {0: [[1]], 1: [[0], []]}


def take_all_letters(dice, hearing, places):
    """Take all letters, in any order."""
    while any(hearing.waiting(place)[0] for place in range(places)):
        hearing.do(("up", dice.choice([place for place in range(places) if hearing.waiting(place)[0]])))


def take_all_copies(dice, hearing, places):
    while any(hearing.waiting(place)[1] for place in range(places)):
        hearing.do(("down", dice.choice([place for place in range(places) if hearing.waiting(place)[1]])))


def ways_of_hearers(up, hearers):
    """For each place, those right below it that hear or below which somebody hears."""
    return {
        place: tuple(
            below for below in range(len(up)) if up[below] == place and below_or_at(up, below) & set(hearers)
        )
        for place in range(len(up))
    }


class WhateverTheWeavingTest(unittest.TestCase):
    def test_in_each_stay_the_numbers_rise_by_one(self):
        heard = 0
        for up, deeds in drawn_weavings(18, 8, 200, 300):
            for stays in played(up, deeds).values():
                for stay in stays:
                    self.assertTrue(rises_by_one(stay), (up, deeds))
                    heard += len(stay) > 1
                self.assertIs(rise(stays), True)
        self.assertGreater(heard, 200)

    def test_no_letter_waiting_just_the_ways_of_those_that_hear_are_served(self):
        dice = random.Random(19)
        for up, deeds in drawn_weavings(19, 8, 120, 80):
            hearing = Hearing(up)
            for deed in deeds:
                hearing.do(deed)
                self.check_served_at_rest(up, hearing)
            take_all_letters(dice, hearing, len(up))
            self.assertIs(self.check_served_at_rest(up, hearing), True)

    def check_served_at_rest(self, up, hearing):
        if any(hearing.waiting(place)[0] for place in range(len(up))):
            return False
        served = {place: hearing.serves(place) for place in range(len(up))}
        self.assertEqual(served, ways_of_hearers(up, hearing.hearers()))
        return True

    def test_a_number_emitted_then_is_heard_by_all_that_hear(self):
        dice = random.Random(20)
        for up, deeds in drawn_weavings(20, 8, 120, 80):
            hearing = Hearing(up)
            for deed in deeds:
                hearing.do(deed)
            take_all_letters(dice, hearing, len(up))
            take_all_copies(dice, hearing, len(up))
            before = {place: hearing.stays(place) for place in range(len(up))}
            number = hearing.do(("emit",))
            take_all_copies(dice, hearing, len(up))
            for place in range(len(up)):
                if place in hearing.hearers():
                    before[place][-1].append(number)
                self.assertEqual(hearing.stays(place), before[place], (up, deeds))

    def test_what_is_told_from_then_on_is_heard_also_among_copies_that_wait(self):
        dice = random.Random(21)
        for up, deeds in drawn_weavings(21, 8, 60, 80):
            hearing = Hearing(up)
            for deed in deeds:
                hearing.do(deed)
            take_all_letters(dice, hearing, len(up))
            numbers = [hearing.do(("emit",)) for turn in range(3)]
            take_all_copies(dice, hearing, len(up))
            for place in hearing.hearers():
                self.assertEqual(hearing.stays(place)[-1][-3:], numbers)

    def test_the_letters_put_up_are_no_more_than_told(self):
        dice = random.Random(22)
        for up, deeds in drawn_weavings(22, 8, 120, 120):
            hearing = Hearing(up)
            most = 0
            for deed in deeds:
                hearing.do(deed)
                most += depth(up, deed[1]) if deed[0] in ("come", "go") else 0
                self.assertLessEqual(hearing.letters(), most)
            take_all_letters(dice, hearing, len(up))
            self.assertLessEqual(hearing.letters(), most)

    def test_of_one_come_and_one_go_alone_they_are_just_as_many(self):
        for place in range(7):
            hearing = Hearing(UP)
            hearing.do(("come", place))
            take_all_letters(random.Random(1), hearing, 7)
            self.assertEqual(hearing.letters(), depth(UP, place))
            hearing.do(("go", place))
            take_all_letters(random.Random(1), hearing, 7)
            self.assertEqual(hearing.letters(), 2 * depth(UP, place))

    def test_all_weavings_of_five_deeds(self):
        for up in [(None, 0), (None, 0, 1)]:
            self.follow(SlowHearing(up), [], 6 if len(up) == 2 else 5)

    def follow(self, slow, deeds, more):
        told = played(slow.ahead, deeds)
        self.assertEqual(told, slow.stays)
        self.assertTrue(all(rises_by_one(stay) for stays in told.values() for stay in stays))
        for deed in slow.deeds() if more else []:
            grown = slow.twin()
            grown.do(deed)
            self.follow(grown, [*deeds, deed], more - 1)


class PlayedTest(unittest.TestCase):
    def test_by_hand(self):
        self.assertEqual(played((None, 0), DEEDS), STAYS)
        self.assertEqual(played((None, 0), []), {0: [], 1: []})
        self.assertEqual(played((None,), [("emit",), ("come", 0), ("emit",)]), {0: [[1]]})
        self.assertEqual(played(UP, [("come", 6), ("go", 6)]), {**{at: [] for at in range(7)}, 6: [[]]})

    def test_drawn_weavings(self):
        for up, deeds in drawn_weavings(23, 8, 60, 100):
            slow = SlowHearing(up)
            for deed in deeds:
                slow.do(deed)
            self.assertEqual(played(up, deeds), slow.stays)


class AtRestTest(unittest.TestCase):
    def test_by_hand(self):
        self.assertEqual(at_rest((None, 0), []), {0: (), 1: ()})
        self.assertEqual(at_rest((None, 0), DEEDS), {0: (1,), 1: ()})
        self.assertEqual(at_rest((None, 0), [*DEEDS, ("go", 1)]), {0: (), 1: ()})
        self.assertEqual(at_rest((None,), [("come", 0)]), {0: ()})
        rest = {0: (), 1: (0, 3), 2: (), 3: (5,), 4: (), 5: (6,), 6: ()}
        self.assertEqual(at_rest(UP, [("come", 6), ("come", 0)]), rest)
        self.assertEqual(at_rest(UP, [("come", 6), ("come", 0), ("up", 6), ("come", 3)]), rest)
        self.assertEqual(at_rest(UP, [("come", 2), ("come", 5), ("come", 4)])[3], (2, 5))

    def test_the_same_in_whatever_order_letters_are_taken(self):
        dice = random.Random(24)
        for up, deeds in drawn_weavings(24, 8, 80, 60):
            told = at_rest(up, deeds)
            for turn in range(4):
                hearing = Hearing(up)
                for deed in deeds:
                    hearing.do(deed)
                take_all_letters(dice, hearing, len(up))
                self.assertEqual(told, {place: hearing.serves(place) for place in range(len(up))})
            self.assertEqual(told, ways_of_hearers(up, hearing.hearers()))

    def test_in_every_order_of_three_comes(self):
        for order in itertools.permutations([0, 2, 6]):
            told = at_rest(UP, [("come", place) for place in order])
            self.assertEqual(told, ways_of_hearers(UP, (0, 2, 6)))


class AreStaysTest(unittest.TestCase):
    def test_by_hand(self):
        self.assertIs(are_stays((None, 0), DEEDS, STAYS), True)
        self.assertIs(are_stays((None, 0), DEEDS, {1: [[0], []], 0: [[1]]}), True)
        self.assertIs(are_stays((None,), [], {0: []}), True)

    def test_such_as_are_not(self):
        for stays in [
            {},
            {0: [[1]]},
            {1: [[0], []]},
            {0: [[1]], 1: [[0]]},
            {0: [[1]], 1: [[], [0]]},
            {0: [[1]], 1: [[0], [], []]},
            {0: [[1]], 1: [[0], [1]]},
            {0: [[1]], 1: [[0, 1], []]},
            {0: [[1]], 1: []},
            {0: [], 1: [[0], []]},
            {0: [[0]], 1: [[0], []]},
            {0: [[1, 1]], 1: [[0], []]},
            {1: [[1]], 0: [[0], []]},
            {0: [[1]], 1: [[0], []], 2: []},
            {0: [[1]], 1: [[0], []], -1: []},
            {0: [[10**30]], 1: [[0], []]},
        ]:
            with self.subTest(stays):
                self.assertIs(are_stays((None, 0), DEEDS, stays), False)
        self.assertIs(are_stays((None,), [], {}), False)
        self.assertIs(are_stays((None,), [], {0: [[]]}), False)

    def test_other_kinds(self):
        for stays in [
            None,
            [],
            [[[1]], [[0], []]],
            {0: [[True]], 1: [[0], []]},
            {0: [[1]], 1: [[False], []]},
            {False: [[1]], 1: [[0], []]},
            {0: [[1]], True: [[0], []]},
            {0: [[1.0]], 1: [[0], []]},
            {0: [(1,)], 1: [[0], []]},
            {0: ([1],), 1: [[0], []]},
            {0: None, 1: [[0], []]},
        ]:
            with self.subTest(repr(stays)):
                self.assertIs(are_stays((None, 0), DEEDS, stays), False)

    def test_drawn_weavings_with_one_number_amiss(self):
        dice = random.Random(25)
        for up, deeds in drawn_weavings(25, 8, 60, 60):
            right = played(up, deeds)
            self.assertIs(are_stays(up, deeds, right), True)
            for change in range(4):
                stays = copy.deepcopy(right)
                self.change(dice.choice([row for row in stays.values()]), change)
                self.assertIs(are_stays(up, deeds, stays), stays == right)

    def change(self, row, change):
        if change == 0:
            row.append([])
        elif change == 1 and row:
            row[-1].append(7)
        elif change == 2 and row:
            row.pop()
        elif row and row[0]:
            row[0][0] += 1


class RiseTest(unittest.TestCase):
    def test_such(self):
        for stays in [
            [],
            [[]],
            [[], []],
            [[5]],
            [[0, 1, 2]],
            [[3, 4], [], [0], [4, 5, 6]],
            [[0, 1], [0, 1]],
            [[5, 6], [0]],
            [[-2, -1, 0, 1]],
            [[10**30, 10**30 + 1]],
        ]:
            with self.subTest(stays):
                self.assertIs(rise(stays), True)

    def test_such_as_do_not(self):
        for stays in [
            [[0, 0]],
            [[0, 2]],
            [[1, 0]],
            [[0, 1, 1]],
            [[0, 1, 3]],
            [[0, 1], [2, 4]],
            [[0, 2], [2, 3]],
            [[], [1, 3], []],
            [[0, 1, 2, 3, 5, 6]],
            [[-1, 1]],
            [[0, -1]],
            [[10**30, 10**30 + 2]],
        ]:
            with self.subTest(stays):
                self.assertIs(rise(stays), False)

    def test_all_short_lists(self):
        rows = [list(row) for many in range(4) for row in itertools.product(range(4), repeat=many)]
        for row in rows:
            self.assertIs(rise([row]), rises_by_one(row))
            self.assertIs(rise([[1, 2], row, []]), rises_by_one(row))


class RefusalsTest(unittest.TestCase):
    def refuse(self, error, up, deeds):
        with self.subTest((repr(up), repr(deeds))):
            self.assertRaises(error, played, up, deeds)
            self.assertRaises(error, at_rest, up, deeds)
            for stays in ({}, {0: []}, None):
                self.assertRaises(error, are_stays, up, deeds, stays)

    def test_ways_that_are_none(self):
        for up in NO_WAYS:
            self.refuse(NoWays, up, [])

    def test_deeds_that_are_none_or_cannot_be_done(self):
        for deed in NO_DEEDS:
            self.refuse(NoDeed, UP, [deed])
            self.refuse(NoDeed, UP, [("come", 0), ("emit",), deed, ("go", 0)])
        for place in NO_PLACES_OF_UP:
            self.refuse(NoPlace, UP, [("come", place)])
            self.refuse(NoPlace, UP, [("emit",), ("down", place)])
        self.refuse(NoPlace, UP, [("come", 0), ("up", 1)])
        for deed in [("go", 0), ("up", 0), ("down", 0)]:
            self.refuse(NoDeed, UP, [deed])
        self.refuse(NoDeed, UP, [("come", 0), ("up", 0), ("go", 0), ("go", 0)])

    def test_ways_go_ahead_of_deeds(self):
        for up in NO_WAYS:
            self.refuse(NoWays, up, [("stay",)])
            self.refuse(NoWays, up, [("come", 99)])

    def test_deed_by_deed(self):
        self.refuse(NoPlace, UP, [("come", 0), ("come", 7), ("stay",)])
        self.refuse(NoDeed, UP, [("come", 0), ("stay",), ("come", 7)])
        self.refuse(NoDeed, UP, [("come", 0), ("come", 0), ("come", 7)])
        self.refuse(NoPlace, UP, [("come", 7), ("come", 0), ("come", 0)])


class HandedInAndToldTest(unittest.TestCase):
    def test_what_is_handed_in_stays(self):
        deeds = list(DEEDS)
        stays = copy.deepcopy(STAYS)
        played((None, 0), deeds)
        at_rest((None, 0), deeds)
        are_stays((None, 0), deeds, stays)
        rise(stays[1])
        self.assertEqual((deeds, stays), (DEEDS, STAYS))

    def test_what_is_told_is_the_askers_own(self):
        told = played((None, 0), DEEDS)
        told[1][0].append(9)
        told[0].clear()
        told[7] = []
        self.assertEqual(played((None, 0), DEEDS), STAYS)
        rest = at_rest((None, 0), DEEDS)
        rest.clear()
        self.assertEqual(at_rest((None, 0), DEEDS), {0: (1,), 1: ()})

    def test_kinds(self):
        told = played((None, 0), DEEDS)
        self.assertTrue(all(type(row) is list for stays in told.values() for row in (stays, *stays)))
        self.assertTrue(all(type(row) is tuple for row in at_rest(UP, []).values()))
