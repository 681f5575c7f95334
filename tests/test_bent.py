"""Point 28, with 2 for what is told and handed in."""

import itertools
import random
import time
import unittest

from hearkenway.bent import breaks, tried
from hearkenway.errors import NoDeed, NoWays
from tests.refusals import check_refusals
from tests.samples import NO_DEEDS
from tests.slow_hearing import SlowHearing

MANNERS = ("counted", "uncounted")
WAYS = [
    (None,),
    *[(None, 0), (1, None)],
    *[(None, 0, 0), (1, None, 1), (2, 2, None)],
    *[(None, 0, 1), (None, 2, 0), (1, None, 0), (2, None, 1), (1, 2, None), (2, 0, None)],
]
# Behind these 1 hears 0, by its first graft, and 2, by its second; 1 was told in between.
BROKEN = [
    ("come", 1),
    ("up", 1),
    ("emit",),
    ("go", 1),
    ("come", 1),
    ("down", 1),
    ("up", 1),
    ("emit",),
    ("up", 1),
    ("emit",),
    ("down", 1),
]


def all_comes(places):
    return [comes for comes in itertools.product(range(3), repeat=places) if sum(comes) <= 3]


def may_break(up, comes):
    """Whether a place right below the root may come twice, whose second stay then may have a number left out."""
    return any(many == 2 and up[place] is not None and up[up[place]] is None for place, many in enumerate(comes))


def broken_by_words(up, manner, comes, emits, deeds):
    slow = SlowHearing(up, manner == "counted")
    for deed in deeds:
        if deed not in slow.deeds():
            return False
        slow.do(deed)
    if deeds.count(("emit",)) > emits:
        return False
    return all(deeds.count(("come", place)) <= many for place, many in enumerate(comes)) and slow.is_broken()


def fewest_by_words(up, manner, comes, emits, number):
    """How many deeds the shortest weaving has that breaks a stay, all of so many tried one by one, or None."""
    waiting = [(SlowHearing(up, manner == "counted"), [])]
    for many in range(number + 1):
        longer = []
        for slow, deeds in waiting:
            if slow.is_broken():
                return many
            for deed in slow.deeds() if many < number else []:
                limit = emits if deed == ("emit",) else comes[deed[1]] if deed[0] == "come" else many + 1
                if deeds.count(deed) < limit:
                    grown = slow.twin()
                    grown.do(deed)
                    longer.append((grown, [*deeds, deed]))
        waiting = longer
    return None


class TriedTest(unittest.TestCase):
    def check(self, up, manner, comes, emits, number):
        told = tried(up, manner, comes, emits, number)
        self.assertIs(type(told), tuple)
        if told[0] == "holds":
            self.assertEqual(told, ("holds", number))
            return None
        word, deeds = told
        self.assertEqual(word, "breaks")
        self.assertIs(type(deeds), list)
        self.assertLessEqual(len(deeds), number)
        self.assertTrue(broken_by_words(up, manner, comes, emits, deeds))
        self.assertIs(breaks(up, manner, comes, emits, deeds), True)
        return len(deeds)

    def test_counted_ones_hold(self):
        for up in WAYS:
            for comes in all_comes(len(up)):
                if sum(comes) == 3 or len(up) == 1:
                    self.assertIsNone(self.check(up, "counted", comes, 3, 12))

    def test_uncounted_ones_with_the_greatest_numbers(self):
        for up in WAYS:
            for comes in all_comes(len(up)):
                if sum(comes) == 3 or len(up) < 3:
                    fewest = 11 if may_break(up, comes) else None
                    self.assertEqual(self.check(up, "uncounted", comes, 3, 12), fewest, (up, comes))

    def test_each_number(self):
        for number in range(13):
            fewest = self.check((None, 0), "uncounted", (0, 2), 3, number)
            self.assertEqual(fewest, 11 if number >= 11 else None)
            self.assertIsNone(self.check((None, 0), "counted", (0, 2), 3, number))

    def test_each_number_of_emits(self):
        for emits in range(4):
            fewest = self.check((None, 0), "uncounted", (0, 2), emits, 12)
            self.assertEqual(fewest, 11 if emits == 3 else None)

    def test_each_number_of_comes(self):
        for comes in all_comes(2):
            fewest = self.check((None, 0), "uncounted", comes, 3, 12)
            self.assertEqual(fewest, 11 if comes[1] == 2 else None)

    def test_the_root_alone_holds(self):
        for manner, comes, emits, number in itertools.product(MANNERS, range(3), range(4), (0, 1, 5, 12)):
            self.assertIsNone(self.check((None,), manner, (comes,), emits, number))

    def test_all_weavings_one_by_one(self):
        for up in [(None,), (1, None), (None, 0, 0), (None, 0, 1)]:
            for manner, comes in itertools.product(MANNERS, [comes for comes in all_comes(len(up)) if sum(comes) > 1]):
                number = {1: 9, 2: 7, 3: 4}[len(up)]
                fewest = fewest_by_words(up, manner, comes, 3, number)
                self.assertEqual(self.check(up, manner, comes, 3, number), fewest)

    def test_the_fewest_deeds_one_by_one(self):
        self.assertIsNone(fewest_by_words((None, 0), "uncounted", (0, 2), 3, 10))
        self.assertEqual(fewest_by_words((None, 0), "uncounted", (0, 2), 3, 11), 11)

    def test_in_time(self):
        for up, manner in itertools.product([(None, 0, 0), (None, 0, 1)], MANNERS):
            start = time.perf_counter()
            tried(up, manner, (1, 1, 1), 3, 12)
            self.assertLess(time.perf_counter() - start, 20)


class BreaksTest(unittest.TestCase):
    def test_by_hand(self):
        self.assertIs(breaks((None, 0), "uncounted", (0, 2), 3, BROKEN), True)
        self.assertIs(breaks((None, 0), "counted", (0, 2), 3, BROKEN), False)
        self.assertIs(breaks((None, 0), "uncounted", (0, 2), 3, BROKEN[:-1]), False)
        self.assertIs(breaks((None, 0), "uncounted", (0, 2), 3, []), False)

    def test_it_stays_broken(self):
        for more in [[("go", 1)], [("go", 1), ("up", 1)], [("come", 0)], [("come", 0), ("go", 1), ("go", 0)]]:
            self.assertIs(breaks((None, 0), "uncounted", (1, 2), 3, BROKEN + more), True)

    def test_in_more_than_twelve_deeds(self):
        deeds = [("come", 0), ("go", 0)] + BROKEN + [("go", 1), ("up", 1)]
        self.assertIs(breaks((None, 0), "uncounted", (1, 2), 3, deeds), True)

    def test_done_too_often(self):
        for comes, emits in [((0, 1), 3), ((0, 0), 3), ((0, 2), 2), ((0, 2), 0), ((2, 1), 3)]:
            self.assertIs(breaks((None, 0), "uncounted", comes, emits, BROKEN), False)
        self.assertIs(breaks((None, 0), "uncounted", (0, 2), 3, BROKEN + [("emit",)]), False)
        self.assertIs(breaks((None, 0), "uncounted", (0, 2), 3, BROKEN + [("come", 0)]), False)
        self.assertIs(breaks((None, 0), "uncounted", (1, 2), 3, BROKEN + [("come", 0)]), True)

    def test_what_cannot_be_done(self):
        for at in range(len(BROKEN) + 1):
            for deed in [("go", 0), ("up", 0), ("down", 0), ("come", 2), ("come", -1), ("stay", 1), ("emit", 1)]:
                deeds = BROKEN[:at] + [deed] + BROKEN[at:]
                self.assertIs(breaks((None, 0), "uncounted", (1, 2), 3, deeds), False)
        for deed in [("up", 1), ("down", 1), ("come", 1)]:
            self.assertIs(breaks((None, 0), "uncounted", (1, 2), 3, BROKEN + [deed]), False)

    def test_one_deed_left_out_or_two_turned_about(self):
        for at in range(len(BROKEN)):
            fewer = BROKEN[:at] + BROKEN[at + 1 :]
            self.assertIs(breaks((None, 0), "uncounted", (0, 2), 3, fewer), False)
            turned = BROKEN[:at] + BROKEN[at : at + 2][::-1] + BROKEN[at + 2 :]
            expected = broken_by_words((None, 0), "uncounted", (0, 2), 3, turned)
            self.assertIs(breaks((None, 0), "uncounted", (0, 2), 3, turned), expected)

    def test_a_copy_that_nobody_needs_is_dropped_in_both_manners(self):
        deeds = [("come", 1), ("up", 1), ("emit",), ("emit",), ("down", 1), ("go", 1), ("down", 1), ("come", 1)]
        deeds += [("emit",), ("down", 1)]
        for manner in MANNERS:
            self.assertIs(breaks((None, 0), manner, (0, 2), 3, deeds), False)

    def test_what_a_broken_stay_is_below(self):
        # 2 hears by 1, which doesn't hear itself.
        up = (None, 0, 1)
        deeds = [("come", 2), ("up", 2), ("up", 1), ("emit",), ("down", 1), ("go", 2), ("come", 2), ("down", 2)]
        deeds += [("up", 2), ("emit",), ("down", 1), ("up", 2), ("emit",), ("down", 1), ("down", 2)]
        self.assertTrue(broken_by_words(up, "uncounted", (0, 0, 2), 3, deeds))
        self.assertIs(breaks(up, "uncounted", (0, 0, 2), 3, deeds), True)
        self.assertIs(breaks(up, "counted", (0, 0, 2), 3, deeds), False)

    def test_drawn_deeds(self):
        dice = random.Random(28)
        broken = 0
        for turn in range(2000):
            up = dice.choice(WAYS[1:])
            comes = dice.choice([comes for comes in all_comes(len(up)) if sum(comes) > 1])
            manner = dice.choice(("counted", "uncounted", "uncounted"))
            deeds = self.drawn_deeds(dice, up)
            for emits in (2, 3):
                expected = broken_by_words(up, manner, comes, emits, deeds)
                self.assertIs(breaks(up, manner, comes, emits, deeds), expected)
                broken += expected
        self.assertGreater(broken, 10)

    def drawn_deeds(self, dice, up):
        """Deeds as those that break a stay, of any place, some turned about and some of another place put in."""
        place, other = dice.choices(range(len(up)), k=2)
        deeds = [(deed[0], place) if len(deed) == 2 else deed for deed in BROKEN]
        for turn in range(dice.randrange(4)):
            at = dice.randrange(len(deeds) - 1)
            deeds[at : at + 2] = deeds[at : at + 2][::-1]
        for word in dice.choice(([], [], ["come"], ["come", "go"], ["come", "up"])):
            deeds.insert(dice.randrange(len(deeds) + 1), (word, other))
        return deeds

    def test_deeds_of_no_form(self):
        for deed in NO_DEEDS:
            self.assertIs(breaks((None, 0), "uncounted", (0, 2), 3, BROKEN + [deed]), False)
            self.assertIs(breaks((None, 0), "uncounted", (0, 2), 3, [deed]), False)


class RefusalsTest(unittest.TestCase):
    def test_alone_and_two_at_once(self):
        check_refusals(self, tried, ["three ways", "manner", "comes", "emits", "number"])
        for deeds in ([], BROKEN, [("stay",)]):
            check_refusals(self, breaks, ["three ways", "manner", "comes", "emits", [deeds]])

    def test_ways_of_more_than_three_places_go_ahead_of_all(self):
        for up in [(None, 0, 0, 0), (None, 0, 1, 2, 3, 4, 5, 6)]:
            for comes in [(0,) * len(up), (0, 0), None]:
                self.assertRaises(NoWays, tried, up, "neither", comes, 9, 99)
                self.assertRaises(NoWays, breaks, up, "neither", comes, 9, [])

    def test_comes_for_more_or_fewer_places(self):
        for up in WAYS:
            for many in range(5):
                if many != len(up):
                    self.assertRaises(NoDeed, tried, up, "counted", (0,) * many, 1, 1)
                    self.assertRaises(NoDeed, breaks, up, "counted", (0,) * many, 1, [])


class HandedInAndToldTest(unittest.TestCase):
    def test_what_is_handed_in_stays(self):
        deeds = list(BROKEN)
        breaks((None, 0), "uncounted", (0, 2), 3, deeds)
        self.assertEqual(deeds, BROKEN)

    def test_what_is_told_is_the_askers_own(self):
        told = tried((None, 0), "uncounted", (0, 2), 3, 11)
        expected = list(told[1])
        told[1].clear()
        self.assertEqual(tried((None, 0), "uncounted", (0, 2), 3, 11), ("breaks", expected))
