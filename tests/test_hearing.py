"""Points 15 to 17, with 2 for what is told and handed in."""

import copy
import itertools
import random
import unittest

from hearkenway.errors import NoDeed, NoPlace, NoWays
from hearkenway.hearing import Hearing, are_ways
from tests.samples import NO_DEEDS, NO_PLACES_OF_UP, NO_WAYS, UP
from tests.slow_hearing import SlowHearing, drawn_weavings, drawn_ways, way_home


def after(up, *deeds):
    hearing = Hearing(up)
    for deed in deeds:
        hearing.do(deed)
    return hearing


def all_told(hearing, places):
    """All that a Hearing tells."""
    return [
        hearing.hearers(),
        hearing.letters(),
        hearing.copies(),
        *((hearing.serves(at), hearing.needed(at), hearing.waiting(at), hearing.stays(at)) for at in range(places)),
    ]


def told_slowly(slow):
    return [
        tuple(sorted(slow.hearing)),
        slow.letters(),
        slow.copies(),
        *((slow.serves(at), slow.needed(at), slow.waiting(at), slow.stays[at]) for at in slow.places),
    ]


class AreWaysTest(unittest.TestCase):
    def test_such(self):
        for up in [
            (None,),
            (None, 0),
            (1, None),
            UP,
            (None, 0, 1, 2, 3, 4, 5, 6),
            (1, 2, 3, 4, 5, 6, 7, None),
            (None, 0, 0, 0, 0, 0, 0, 0),
            (7, 7, 7, 7, 7, 7, 7, None),
            (3, 3, 3, None, 3, 4, 5, 6),
        ]:
            with self.subTest(up):
                self.assertIs(are_ways(up), True)

    def test_things_that_are_none(self):
        for thing in NO_WAYS:
            with self.subTest(repr(thing)):
                self.assertIs(are_ways(thing), False)

    def test_all_tuples_of_up_to_four_entries(self):
        for places in range(5):
            held = 0
            for up in itertools.product([None, *range(-1, places + 1)], repeat=places):
                expected = self.by_words(up)
                self.assertIs(are_ways(up), expected, up)
                held += expected
            # So many trees with a root are there.
            self.assertEqual(held, {0: 0, 1: 1, 2: 2, 3: 9, 4: 64}[places])

    def by_words(self, up):
        places = range(len(up))
        if sum(entry is None for entry in up) != 1 or not all(entry is None or entry in places for entry in up):
            return False
        reached = {up.index(None)}
        for turn in places:
            reached |= {place for place in places if up[place] in reached}
        return len(reached) == len(up)

    def test_one_entry_amiss(self):
        dice = random.Random(5)
        for turn in range(60):
            up = drawn_ways(dice, 2 + turn % 7)
            self.assertIs(are_ways(up), True)
            for at in range(len(up)):
                # What is no place; a second root, or none; rings.
                others = [len(up), -1, True, None if up[at] is not None else up[at - 1]]
                others += [below for below in range(len(up)) if at in way_home(up, below)]
                for entry in others:
                    self.assertIs(are_ways((*up[:at], entry, *up[at + 1 :])), False, (up, at, entry))


class DeedsTest(unittest.TestCase):
    def test_at_first(self):
        for up in [(None,), (1, None), UP]:
            hearing = Hearing(up)
            self.assertEqual((hearing.hearers(), hearing.letters(), hearing.copies()), ((), 0, 0))
            for place in range(len(up)):
                self.assertEqual(hearing.serves(place), ())
                self.assertIs(hearing.needed(place), False)
                self.assertEqual(hearing.waiting(place), (0, 0))
                self.assertEqual(hearing.stays(place), [])

    def test_what_each_deed_tells(self):
        hearing = Hearing((None, 0))
        self.assertIsNone(hearing.do(("come", 1)))
        self.assertIsNone(hearing.do(("up", 1)))
        self.assertEqual(hearing.do(("emit",)), 0)
        self.assertIsNone(hearing.do(("down", 1)))
        self.assertIsNone(hearing.do(("go", 1)))
        self.assertEqual([hearing.do(("emit",)) for turn in range(5)], [1, 2, 3, 4, 5])
        self.assertIs(type(hearing.do(("emit",))), int)

    def test_the_root_alone(self):
        hearing = Hearing((None,))
        for deed in [("emit",), ("come", 0), ("emit",), ("emit",), ("go", 0), ("emit",), ("come", 0)]:
            hearing.do(deed)
        self.assertEqual(hearing.stays(0), [[1, 2], []])
        self.assertEqual((hearing.letters(), hearing.copies(), hearing.waiting(0)), (0, 0, (0, 0)))
        self.assertIs(hearing.needed(0), True)
        hearing.do(("go", 0))
        self.assertIs(hearing.needed(0), False)
        self.assertEqual(hearing.stays(0), [[1, 2], []])

    def test_a_come_puts_up_a_graft_that_goes_on(self):
        hearing = after(UP, ("come", 6))
        self.assertEqual(hearing.hearers(), (6,))
        self.assertEqual((hearing.waiting(6), hearing.letters()), ((1, 0), 1))
        self.assertEqual([hearing.needed(place) for place in (6, 5, 3, 1)], [True, False, False, False])
        hearing.do(("up", 6))
        self.assertEqual((hearing.serves(5), hearing.waiting(6), hearing.waiting(5)), ((6,), (0, 0), (1, 0)))
        hearing.do(("up", 5))
        hearing.do(("up", 3))
        self.assertEqual([hearing.serves(place) for place in range(7)], [(), (3,), (), (5,), (), (6,), ()])
        self.assertEqual([hearing.needed(place) for place in range(7)], [False, True, False, True, False, True, True])
        self.assertEqual((hearing.waiting(1), hearing.letters()), ((0, 0), 3))

    def test_a_come_where_it_is_needed_already_puts_up_nothing(self):
        hearing = after(UP, ("come", 6), ("up", 6), ("up", 5), ("up", 3))
        for place in (5, 3, 1):
            hearing.do(("come", place))
            self.assertEqual(hearing.letters(), 3)
        self.assertEqual(hearing.hearers(), (1, 3, 5, 6))
        hearing.do(("come", 2))
        hearing.do(("up", 2))
        self.assertEqual((hearing.serves(3), hearing.letters()), ((2, 5), 4))

    def test_a_go_puts_up_a_cut_where_it_is_not_needed_any_more(self):
        hearing = after(UP, ("come", 6), ("up", 6), ("up", 5), ("up", 3), ("come", 3), ("go", 6))
        self.assertEqual((hearing.letters(), hearing.waiting(6)), (4, (1, 0)))
        hearing.do(("up", 6))
        self.assertEqual((hearing.serves(5), hearing.needed(5), hearing.waiting(5)), ((), False, (1, 0)))
        hearing.do(("up", 5))
        # 3 hears, so it is still needed.
        self.assertEqual((hearing.serves(3), hearing.needed(3), hearing.waiting(3)), ((), True, (0, 0)))
        self.assertEqual((hearing.serves(1), hearing.letters()), ((3,), 5))
        hearing.do(("go", 3))
        hearing.do(("up", 3))
        self.assertEqual((hearing.serves(1), hearing.letters(), hearing.needed(1)), ((), 6, False))

    def test_letters_wait_first_in_first_out(self):
        hearing = after((None, 0), ("come", 1), ("go", 1), ("come", 1), ("go", 1), ("come", 1))
        self.assertEqual((hearing.waiting(1), hearing.letters()), ((5, 0), 5))
        served = []
        for turn in range(5):
            hearing.do(("up", 1))
            served.append(hearing.serves(0))
        self.assertEqual(served, [(1,), (), (1,), (), (1,)])
        self.assertEqual(hearing.waiting(1), (0, 0))

    def test_copies_wait_first_in_first_out(self):
        hearing = after(UP, ("come", 2), ("up", 2), ("up", 3), ("emit",), ("emit",), ("emit",))
        self.assertEqual((hearing.waiting(3), hearing.waiting(2), hearing.copies()), ((0, 3), (0, 0), 3))
        hearing.do(("down", 3))
        hearing.do(("down", 3))
        self.assertEqual((hearing.waiting(3), hearing.waiting(2), hearing.copies()), ((0, 1), (0, 2), 5))
        hearing.do(("down", 2))
        self.assertEqual(hearing.stays(2), [[0]])
        hearing.do(("down", 2))
        hearing.do(("down", 3))
        hearing.do(("down", 2))
        self.assertEqual((hearing.stays(2), hearing.stays(3), hearing.copies()), ([[0, 1, 2]], [], 6))

    def test_a_copy_for_each_that_is_served(self):
        hearing = Hearing(UP)
        for place in (0, 3, 4):
            hearing.do(("come", place))
            hearing.do(("emit",))
            hearing.do(("up", place))
        self.assertEqual((hearing.serves(1), hearing.copies()), ((0, 3, 4), 3))
        hearing.do(("emit",))
        self.assertEqual([hearing.waiting(place) for place in (0, 3, 4)], [(0, 3), (0, 2), (0, 1)])
        self.assertEqual(hearing.copies(), 6)

    def test_who_is_served_but_does_not_hear_copies_only(self):
        hearing = after(UP, ("come", 2), ("up", 2), ("up", 3), ("emit",), ("down", 3), ("down", 2))
        self.assertEqual((hearing.stays(3), hearing.stays(2), hearing.stays(1)), ([], [[0]], []))
        hearing.do(("come", 3))
        hearing.do(("come", 1))
        for deed in [("emit",), ("down", 3), ("down", 2)]:
            hearing.do(deed)
        self.assertEqual((hearing.stays(3), hearing.stays(2), hearing.stays(1)), ([[1]], [[0, 1]], [[1]]))

    def test_a_copy_is_dropped_where_nobody_needs_it(self):
        hearing = after((None, 0), ("come", 1), ("up", 1), ("emit",), ("go", 1), ("down", 1))
        self.assertEqual((hearing.waiting(1), hearing.stays(1), hearing.copies()), ((1, 0), [[]], 1))

    def test_a_copy_whose_count_is_another_one_is_dropped(self):
        hearing = after((None, 0), ("come", 1), ("up", 1), ("emit",), ("go", 1), ("come", 1))
        # The root serves it by the first graft still.
        hearing.do(("emit",))
        self.assertEqual(hearing.waiting(1), (2, 2))
        hearing.do(("down", 1))
        self.assertEqual((hearing.waiting(1), hearing.stays(1)), ((2, 1), [[], []]))
        hearing.do(("up", 1))
        hearing.do(("emit",))
        hearing.do(("up", 1))
        hearing.do(("emit",))
        self.assertEqual((hearing.waiting(1), hearing.copies()), ((0, 2), 3))
        hearing.do(("down", 1))
        self.assertEqual(hearing.stays(1), [[], []])
        hearing.do(("down", 1))
        self.assertEqual(hearing.stays(1), [[], [3]])

    def test_a_dropped_copy_is_not_put_down_below(self):
        up = (None, 0, 1)
        hearing = after(up, ("come", 2), ("up", 2), ("up", 1), ("emit",), ("go", 2), ("up", 2), ("come", 2), ("up", 2))
        # 1 was not needed for a while, so its count is 2 and the copy's is 1.
        self.assertEqual((hearing.serves(1), hearing.waiting(1), hearing.copies()), ((2,), (2, 1), 1))
        hearing.do(("down", 1))
        self.assertEqual((hearing.waiting(1), hearing.waiting(2), hearing.copies()), ((2, 0), (0, 0), 1))

    def test_a_new_stay_where_it_was_needed_all_the_while(self):
        up = (None, 0, 1)
        hearing = after(up, ("come", 1), ("up", 1), ("come", 2), ("up", 2), ("emit",), ("emit",), ("down", 1))
        hearing.do(("go", 1))
        hearing.do(("down", 1))
        hearing.do(("come", 1))
        hearing.do(("emit",))
        hearing.do(("down", 1))
        self.assertEqual(hearing.stays(1), [[0], [2]])
        self.assertEqual((hearing.letters(), hearing.copies(), hearing.waiting(2)), (2, 6, (0, 3)))

    def test_drawn_weavings_against_slow_ones(self):
        for up, deeds in drawn_weavings(15, 8, 120, 120):
            hearing, slow = Hearing(up), SlowHearing(up)
            for deed in deeds:
                number = slow.told if deed == ("emit",) else None
                self.assertEqual(hearing.do(deed), number)
                slow.do(deed)
                self.assertEqual(all_told(hearing, len(up)), told_slowly(slow), (up, deeds))

    def test_two_hearings_by_turns(self):
        weavings = list(drawn_weavings(16, 8, 20, 80))
        for (one, deeds), (other, more) in zip(weavings, weavings[1:] + [weavings[0]]):
            first, second = Hearing(one), Hearing(other)
            for deed, another in zip(deeds, more):
                first.do(deed)
                second.do(another)
            self.assertEqual(all_told(first, len(one)), all_told(after(one, *deeds), len(one)))
            self.assertEqual(all_told(second, len(other)), all_told(after(other, *more), len(other)))

    def test_two_hearings_of_the_same_ways(self):
        first, second = Hearing(UP), Hearing(UP)
        for deed in [("come", 0), ("up", 0), ("emit",), ("down", 0)]:
            first.do(deed)
        self.assertEqual(all_told(second, 7), all_told(Hearing(UP), 7))

    def test_many_numbers(self):
        hearing = after((None, 0), ("come", 1), ("up", 1))
        for number in range(3000):
            self.assertEqual(hearing.do(("emit",)), number)
        for number in range(3000):
            hearing.do(("down", 1))
        self.assertEqual(hearing.stays(1), [list(range(3000))])


class RefusalsTest(unittest.TestCase):
    def setUp(self):
        self.hearing = after(UP, ("come", 6), ("up", 6), ("come", 0), ("up", 0), ("emit",), ("come", 1))

    def refuse(self, error, deed):
        """The deed is refused, and nothing is changed."""
        before = all_told(self.hearing, 7)
        with self.subTest(repr(deed)), self.assertRaises(error):
            self.hearing.do(deed)
        self.assertEqual(all_told(self.hearing, 7), before)

    def test_ways_that_are_none(self):
        for thing in NO_WAYS:
            with self.subTest(repr(thing)), self.assertRaises(NoWays):
                Hearing(thing)

    def test_what_is_no_deed(self):
        for deed in NO_DEEDS:
            self.refuse(NoDeed, deed)

    def test_what_is_no_place(self):
        for word in ("come", "go", "up", "down"):
            for place in NO_PLACES_OF_UP:
                self.refuse(NoPlace, (word, place))

    def test_the_root_takes_no_up_and_no_down(self):
        self.refuse(NoPlace, ("up", 1))
        self.refuse(NoPlace, ("down", 1))
        for word in ("up", "down"):
            self.assertRaises(NoPlace, Hearing((None,)).do, (word, 0))

    def test_a_come_of_one_that_hears_and_a_go_of_one_that_does_not(self):
        for place in (0, 1, 6):
            self.refuse(NoDeed, ("come", place))
        for place in (2, 3, 4, 5):
            self.refuse(NoDeed, ("go", place))

    def test_no_letter_and_no_copy_waits(self):
        for place in (0, 2, 3, 4, 6):
            self.refuse(NoDeed, ("up", place))
        for place in (2, 3, 4, 5, 6):
            self.refuse(NoDeed, ("down", place))
        # One waits at 5 and at 0, and none when it is taken.
        self.hearing.do(("up", 5))
        self.refuse(NoDeed, ("up", 5))
        self.hearing.do(("down", 0))
        self.refuse(NoDeed, ("down", 0))

    def test_which_goes_first(self):
        # No deed by its form, of no place.
        self.refuse(NoDeed, ("stay", 7))
        self.refuse(NoDeed, ("come", 7, 7))
        self.refuse(NoDeed, ("emit", 7))
        # The root for up and down, where nothing waits either.
        self.refuse(NoPlace, ("up", 1))
        self.refuse(NoPlace, ("go", 7))

    def test_it_goes_on_behind_a_refusal(self):
        self.refuse(NoDeed, ("come", 0))
        self.hearing.do(("down", 0))
        self.assertEqual(self.hearing.stays(0), [[0]])

    def test_questions_about_what_is_no_place(self):
        for place in NO_PLACES_OF_UP:
            for ask in (self.hearing.serves, self.hearing.needed, self.hearing.waiting, self.hearing.stays):
                with self.subTest((ask.__name__, repr(place))), self.assertRaises(NoPlace):
                    ask(place)

    def test_every_deed_in_drawn_weavings(self):
        every = [(word, place) for word in ("come", "go", "up", "down") for place in range(-1, 6)]
        for up, deeds in drawn_weavings(17, 5, 25, 30):
            hearing, slow = Hearing(up), SlowHearing(up)
            for deed in deeds:
                before = all_told(hearing, len(up))
                for other in every:
                    error = self.due(slow, *other)
                    if error is not None:
                        self.assertRaises(error, hearing.do, other)
                self.assertEqual(all_told(hearing, len(up)), before)
                hearing.do(deed)
                slow.do(deed)

    def due(self, slow, word, place):
        if place not in slow.places or (place == slow.root and word in ("up", "down")):
            return NoPlace
        return None if slow.may(word, place) else NoDeed


class HandedInAndToldTest(unittest.TestCase):
    def test_kinds(self):
        hearing = after(UP, ("come", 3), ("up", 3), ("emit",), ("down", 3))
        for told, kind in [
            (hearing.hearers(), tuple),
            (hearing.serves(1), tuple),
            (hearing.needed(1), bool),
            (hearing.waiting(1), tuple),
            (hearing.stays(3), list),
            (hearing.stays(3)[0], list),
            (hearing.letters(), int),
            (hearing.copies(), int),
        ]:
            self.assertIs(type(told), kind)

    def test_what_is_told_is_the_askers_own(self):
        hearing = after(UP, ("come", 3), ("up", 3), ("emit",), ("down", 3))
        told = hearing.stays(3)
        told[0].append(77)
        told.append([1])
        self.assertEqual(hearing.stays(3), [[0]])
        hearing.do(("emit",))
        hearing.do(("down", 3))
        self.assertEqual(hearing.stays(3), [[0, 1]])
        self.assertEqual(told, [[0, 77], [1]])

    def test_what_was_told_stays_behind_deeds(self):
        hearing = after(UP, ("come", 3), ("up", 3), ("emit",), ("down", 3))
        told = all_told(hearing, 7)
        before = copy.deepcopy(told)
        for deed in [("come", 0), ("up", 0), ("emit",), ("down", 3), ("go", 3), ("come", 3)]:
            hearing.do(deed)
        self.assertEqual(told, before)
