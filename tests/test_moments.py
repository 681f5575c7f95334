"""Points 20 and 21, with 2 for what is told and handed in."""

import copy
import itertools
import random
import unittest

from hearkenway.errors import NoDeed, NoEvents, NoPlace, NoWays
from hearkenway.moments import first_moments, heard
from hearkenway.weaving import rise
from tests.samples import NO_DEEDS, NO_WAYS, UP
from tests.slow_hearing import drawn_ways, slowly_heard

LATE = (3, 0, 1, 2, 7, 4, 5)
FAR = 10**19

EVENTS = [
    (0, ("come", 6)),
    (4, ("come", 0)),
    (7, ("emit",)),
    (11, ("emit",)),
    (11, ("emit",)),
    (13, ("go", 6)),
    (13, ("emit",)),
    (14, ("go", 0)),
]


def drawn_lates(dice, up, most):
    return tuple(0 if ahead is None else dice.randint(1, most) for ahead in up)


def drawn_events(dice, up, many, gaps):
    """So many events, each as long behind the last one as one of the gaps."""
    hearing = set()
    moment = 0
    events = []
    for turn in range(many):
        moment += dice.choice(gaps)
        place = dice.randrange(len(up))
        if dice.random() < 0.5:
            events.append((moment, ("emit",)))
        else:
            events.append((moment, ("go" if place in hearing else "come", place)))
            hearing ^= {place}
    return events


class HeardTest(unittest.TestCase):
    def check(self, up, late, events):
        told = heard(up, late, events)
        self.assertEqual(told, slowly_heard(up, late, events), (up, late, events))
        for stays in told.values():
            self.assertIs(rise([[number for number, moment in stay] for stay in stays]), True)
        return told

    def test_by_hand(self):
        # The graft of 0 is taken at 7, and it goes when it has heard what was emitted at 11.
        # The graft of 6 is taken at 5, 9 and 11; it goes ahead of all that it is put down.
        told = {**{place: [] for place in range(7)}, 0: [[(0, 10), (1, 14), (2, 14)]], 6: [[]]}
        self.assertEqual(heard(UP, LATE, EVENTS), told)
        # Had it stayed, it would hear what was emitted from 11 on.
        events = [event for event in EVENTS if event[1] != ("go", 6)]
        self.assertEqual(heard(UP, LATE, events), {**told, 6: [[(1, 22), (2, 22), (3, 24)]]})

    def test_nothing_told(self):
        self.assertEqual(heard((None,), (0,), []), {0: []})
        self.assertEqual(heard(UP, LATE, []), {place: [] for place in range(7)})

    def test_the_root_hears_at_once(self):
        events = [(0, ("emit",)), (0, ("come", 0)), (0, ("emit",)), (9, ("emit",)), (9, ("go", 0)), (9, ("emit",))]
        self.assertEqual(heard((None,), (0,), events), {0: [[(1, 0), (2, 9)]]})

    def test_letters_due_go_ahead_of_deeds_of_the_same_moment(self):
        up, late = (None, 0), (0, 4)
        self.assertEqual(heard(up, late, [(0, ("come", 1)), (4, ("emit",))]), {0: [], 1: [[(0, 8)]]})
        self.assertEqual(heard(up, late, [(0, ("come", 1)), (3, ("emit",))]), {0: [], 1: [[]]})

    def test_letters_due_go_ahead_of_copies_due_at_the_same_moment(self):
        # 1 is served from 1 on. The copy for it and the graft of 2 are both due at 4.
        up, late = (None, 0, 1), (0, 1, 3)
        events = [(0, ("come", 1)), (1, ("come", 2)), (3, ("emit",))]
        self.assertEqual(self.check(up, late, events), {0: [], 1: [[(0, 4)]], 2: [[(0, 7)]]})
        events = [(0, ("come", 1)), (2, ("come", 2)), (3, ("emit",))]
        self.assertEqual(self.check(up, late, events), {0: [], 1: [[(0, 4)]], 2: [[]]})

    def test_copies_due_go_ahead_of_deeds_of_the_same_moment(self):
        up, late = (None, 0), (0, 2)
        # The copy is heard at 4, then the hearer goes.
        events = [(0, ("come", 1)), (2, ("emit",)), (4, ("go", 1))]
        self.assertEqual(self.check(up, late, events)[1], [[(0, 4)]])
        events = [(0, ("come", 1)), (2, ("emit",)), (3, ("go", 1))]
        self.assertEqual(self.check(up, late, events)[1], [[]])
        # One that comes at the moment at which the place takes a copy for another one doesn't hear it.
        up, late = (None, 0, 1), (0, 2, 1)
        events = [(0, ("come", 2)), (3, ("emit",)), (5, ("come", 1)), (5, ("emit",))]
        self.assertEqual(self.check(up, late, events), {0: [], 1: [[(1, 7)]], 2: [[(0, 6), (1, 8)]]})

    def test_a_cut_and_a_graft_under_way_at_once(self):
        up, late = (None, 0), (0, 5)
        events = [(0, ("come", 1)), (5, ("emit",)), (6, ("go", 1)), (7, ("come", 1)), (8, ("emit",)), (12, ("emit",))]
        # 0 is due at 10 and of another count by then; so is 1; 2 is put down by the second graft.
        self.assertEqual(self.check(up, late, events)[1], [[], [(2, 17)]])

    def test_all_is_taken_at_last(self):
        up = tuple([None, *range(7)])
        late = (0,) + (100,) * 7
        told = self.check(up, late, [(0, ("come", 7)), (700, ("emit",)), (700, ("emit",))])
        self.assertEqual(told[7], [[(0, 1400), (1, 1400)]])

    def test_drawn_events_close_together(self):
        dice = random.Random(20)
        for turn in range(400):
            up = drawn_ways(dice, 1 + turn % 8)
            late = drawn_lates(dice, up, dice.choice((1, 2, 4)))
            self.check(up, late, drawn_events(dice, up, 40, dice.choice(((0, 1), (0, 0, 1, 2), (1,), (0, 1, 5)))))

    def test_drawn_events_with_great_latenesses(self):
        dice = random.Random(21)
        for turn in range(60):
            up = drawn_ways(dice, 1 + turn % 8)
            late = drawn_lates(dice, up, 100)
            self.check(up, late, drawn_events(dice, up, 30, (0, 1, 10, 40, 100)))

    def test_drawn_events_far_apart(self):
        dice = random.Random(22)
        for turn in range(60):
            up = drawn_ways(dice, 1 + turn % 8)
            late = drawn_lates(dice, up, 6)
            events = drawn_events(dice, up, 30, (0, 1, 3, FAR, 7 * FAR + 1))
            self.assertGreater(events[-1][0], FAR)
            self.check(up, late, events)

    def test_all_events_of_two_places_at_few_moments(self):
        deeds = [("come", 1), ("emit",), ("go", 1), ("come", 1), ("emit",)]
        for moments in itertools.combinations_with_replacement(range(6), 5):
            for late in (1, 2, 3):
                self.check((None, 0), (0, late), list(zip(moments, deeds)))

    def test_the_moments_may_be_moved(self):
        told = heard(UP, LATE, EVENTS)
        moved = heard(UP, LATE, [(moment + FAR, deed) for moment, deed in EVENTS])
        for place in range(7):
            expected = [[(number, moment + FAR) for number, moment in stay] for stay in told[place]]
            self.assertEqual(moved[place], expected)

    def test_many_events(self):
        events = [(0, ("come", 6))] + [(moment, ("emit",)) for moment in range(11, 2011)]
        self.assertEqual(heard(UP, LATE, events)[6], [[(number, number + 22) for number in range(2000)]])


class FirstMomentsTest(unittest.TestCase):
    def test_by_hand(self):
        self.assertEqual(first_moments(UP, LATE, {}), {})
        self.assertEqual(first_moments(UP, LATE, {1: 8}), {1: 8})
        self.assertEqual(first_moments(UP, LATE, {0: 8}), {0: 11})
        # The graft of 6 is taken at 5, 9 and 11.
        self.assertEqual(first_moments(UP, LATE, {6: 0}), {6: 11})
        # 2 and 5 are needed at 0 and 5; 3, by 2, at 1, so it is served from 3 on.
        self.assertEqual(first_moments(UP, LATE, {6: 0, 2: 0}), {6: 7, 2: 3})

    def test_parts_below_nought(self):
        # What hangs on 2 alone is 0 + 1 - 100, and on 3 alone 0 + 1 - 101; on 1 it is 0 + 100.
        up, late = (None, 0, 1, 2), (0, 100, 1, 1)
        told = first_moments(up, late, {0: 0, 1: 0, 2: 0, 3: 0})
        self.assertEqual(told, {0: 0, 1: 100, 2: 100, 3: 100})
        # 1 is needed at 0 by itself, so 2's come at 99 is early enough, and at 300 it isn't.
        for moment, first in [(99, 100), (199, 100), (200, 101), (300, 201)]:
            self.assertEqual(first_moments(up, late, {1: 0, 2: moment}), {1: 100, 2: first})

    def test_moments_far_apart(self):
        told = first_moments(UP, LATE, {6: 10 * FAR, 2: 3, 1: 10**30})
        self.assertEqual(told, {1: 10**30, 2: 6, 6: 10 * FAR + 5 + 4 - 2})

    def test_drawn_comes(self):
        dice = random.Random(23)
        early = 0
        for turn in range(250):
            up = drawn_ways(dice, 1 + turn % 8)
            late = drawn_lates(dice, up, dice.choice((1, 5, 30)))
            places = dice.sample(range(len(up)), dice.randint(0, len(up)))
            comes = {place: dice.choice((0, 3, dice.randrange(60))) for place in places}
            told = first_moments(up, late, comes)
            self.assertEqual(set(told), set(comes))
            early += self.check_heard(up, late, comes, told)
        self.assertGreater(early, 100)

    def check_heard(self, up, late, comes, told):
        """Emitted behind all comes at each first moment, a moment ahead of it and behind it, and long behind it."""
        last = max(comes.values(), default=0)
        events = [(moment, ("come", place)) for place, moment in sorted(comes.items(), key=lambda item: item[1])]
        moments = sorted({m for first in told.values() for m in (first - 1, first, first + 1, first + 500) if m >= last})
        events += [(moment, ("emit",)) for moment in moments]
        stays = heard(up, late, events)
        for place in range(len(up)):
            expected = [number for number, moment in enumerate(moments) if place in told and moment >= told[place]]
            numbers = [number for stay in stays[place] for number, moment in stay]
            self.assertEqual(numbers, expected, (up, late, comes, place))
        return sum(first - 1 >= last for first in told.values())

    def test_by_the_words(self):
        dice = random.Random(24)
        for turn in range(300):
            up = drawn_ways(dice, 1 + turn % 8)
            late = drawn_lates(dice, up, 100)
            places = dice.sample(range(len(up)), dice.randint(0, len(up)))
            comes = {place: dice.randrange(30) for place in places}
            expected = {place: self.first_by_words(up, late, comes, place) for place in comes}
            self.assertEqual(first_moments(up, late, comes), expected)

    def first_by_words(self, up, late, comes, place):
        if up[place] is None:
            return comes[place]
        parts = []
        while up[place] is not None:
            parts.append(self.needed(up, late, comes, place) + late[place] - self.down_to(up, late, up[place]))
            place = up[place]
        return max(parts)

    def needed(self, up, late, comes, place):
        """The earliest moment at which a place is needed, or one far off where it never is."""
        moments = [comes[place]] if place in comes else [10**40]
        for below in range(len(up)):
            if up[below] == place:
                moments.append(self.needed(up, late, comes, below) + late[below])
        return min(moments)

    def down_to(self, up, late, place):
        return 0 if up[place] is None else late[place] + self.down_to(up, late, up[place])


NO_LATES = [
    None,
    0,
    "",
    [],
    [3, 0, 1, 2, 7, 4, 5],
    {},
    (),
    (0,),
    LATE[:-1],
    (*LATE, 1),
    (0, 0, 1, 2, 7, 4, 5),
    (3, 1, 1, 2, 7, 4, 5),
    (3, 0, 1, 2, 7, 4, 101),
    (3, 0, 1, 2, 7, 4, 0),
    (3, 0, 1, 2, 7, 4, -1),
    (3, 0, 1, 2, 7, 4, 10**30),
    (3, -1, 1, 2, 7, 4, 5),
    (3, False, 1, 2, 7, 4, 5),
    (True, 0, 1, 2, 7, 4, 5),
    (3, None, 1, 2, 7, 4, 5),
    (None, 0, 1, 2, 7, 4, 5),
    (3.0, 0, 1, 2, 7, 4, 5),
    ("3", 0, 1, 2, 7, 4, 5),
]

NO_EVENTS = [
    None,
    0,
    "",
    (),
    {},
    ((0, ("emit",)),),
    [None],
    [0],
    [()],
    [("emit",)],
    [(0,)],
    [(0, ("emit",), 0)],
    [[0, ("emit",)]],
    [(("emit",), 0)],
    [(-1, ("emit",))],
    [(True, ("emit",))],
    [(None, ("emit",))],
    [(0.0, ("emit",))],
    [("0", ("emit",))],
    [(0, None)],
    [(0, "emit")],
    [(0, ["emit"])],
    [(1, ("emit",)), (0, ("emit",))],
    [(0, ("emit",)), (5, ("emit",)), (4, ("emit",))],
    [(0, ("up", 0))],
    [(0, ("down", 0))],
    [(0, ("come", 0)), (1, ("up", 0))],
    [(0, ("come", True))],
    [(0, ("come", None))],
    [(0, ("come", "0"))],
    [(0, ("come", 0.0))],
    [(0, ("go", (0,)))],
    [(0, ("go", [0]))],
    *[[(0, deed)] for deed in NO_DEEDS],
]

NO_COMES = [
    None,
    0,
    "",
    (),
    [],
    [(0, 0)],
    {True: 0},
    {False: 0},
    {None: 0},
    {"0": 0},
    {0.0: 0},
    {(0,): 0},
    {0: True},
    {0: None},
    {0: "0"},
    {0: 0.0},
    {0: -1},
    {0: 3, 2: -1},
    {0: -(10**30)},
]


class RefusalsTest(unittest.TestCase):
    def test_ways_go_first(self):
        for up in NO_WAYS:
            for late, events in [(LATE, []), (None, []), (LATE, None), ((0,), [(0, ("come", 9))])]:
                with self.subTest((repr(up), repr(late), repr(events))):
                    self.assertRaises(NoWays, heard, up, late, events)
                    self.assertRaises(NoWays, first_moments, up, late, {9: 0})
                    self.assertRaises(NoWays, first_moments, up, late, None)

    def test_latenesses(self):
        for late in NO_LATES:
            for events in [[], EVENTS, [(0, ("come", 9))], [(0, ("go", 0))], None]:
                with self.subTest((repr(late), repr(events))):
                    self.assertRaises(NoEvents, heard, UP, late, events)
            for comes in [{}, {0: 1}, {9: 1}, None]:
                self.assertRaises(NoEvents, first_moments, UP, late, comes)

    def test_of_other_ways(self):
        for up, late in [((None,), (1,)), ((None,), (0, 1)), ((None, 0), (0,)), ((1, None), (0, 1)), ((None, 0), (1, 0))]:
            self.assertRaises(NoEvents, heard, up, late, [])
            self.assertRaises(NoEvents, first_moments, up, late, {})
        for up, late in [((None, 0), (0, 1)), ((None, 0), (0, 100)), ((1, None), (1, 0))]:
            self.assertEqual(heard(up, late, []), {0: [], 1: []})
            self.assertEqual(first_moments(up, late, {}), {})

    def test_events(self):
        for events in NO_EVENTS:
            with self.subTest(repr(events)):
                self.assertRaises(NoEvents, heard, UP, LATE, events)

    def test_comes(self):
        for comes in NO_COMES:
            with self.subTest(repr(comes)):
                self.assertRaises(NoEvents, first_moments, UP, LATE, comes)

    def test_what_is_no_place(self):
        for place in (-1, 7, 8, 10**30, -(10**30)):
            for word in ("come", "go"):
                self.assertRaises(NoPlace, heard, UP, LATE, [(0, (word, place))])
                self.assertRaises(NoPlace, heard, UP, LATE, [(0, ("come", 0)), (9, ("emit",)), (9, (word, place))])
            self.assertRaises(NoPlace, first_moments, UP, LATE, {place: 0})
            self.assertRaises(NoPlace, first_moments, UP, LATE, {0: 0, place: 0})

    def test_what_cannot_be_done(self):
        for deeds in [
            [("go", 0)],
            [("come", 0), ("come", 0)],
            [("come", 0), ("go", 0), ("go", 0)],
            [("come", 0), ("emit",), ("come", 1), ("come", 0)],
        ]:
            for gap in (0, 1, 50, FAR):
                events = [(gap * at, deed) for at, deed in enumerate(deeds)]
                self.assertRaises(NoDeed, heard, UP, LATE, events)

    def test_two_at_once(self):
        # What is no event goes ahead of what is no place, wherever it stands, and that of what can't be done.
        for events in NO_EVENTS:
            if isinstance(events, list):
                first = [(0, ("come", 7)), (0, ("go", 0))]
                self.assertRaises(NoEvents, heard, UP, LATE, first + events)
                last = [(10**9, ("come", 7)), (10**9, ("go", 0))]
                self.assertRaises(NoEvents, heard, UP, LATE, events + last)
        self.assertRaises(NoPlace, heard, UP, LATE, [(0, ("go", 0)), (1, ("come", 7))])
        self.assertRaises(NoPlace, heard, UP, LATE, [(0, ("come", 0)), (0, ("come", 0)), (1, ("go", -1))])
        for comes in NO_COMES:
            if isinstance(comes, dict):
                self.assertRaises(NoEvents, first_moments, UP, LATE, {7: 1, **comes})
                self.assertRaises(NoEvents, first_moments, UP, LATE, {**comes, 7: 1})


class HandedInAndToldTest(unittest.TestCase):
    def test_what_is_handed_in_stays(self):
        events = list(EVENTS)
        comes = {6: 0, 2: 3}
        heard(UP, LATE, events)
        first_moments(UP, LATE, comes)
        self.assertEqual((events, list(comes.items())), (EVENTS, [(6, 0), (2, 3)]))

    def test_what_is_told_is_the_askers_own(self):
        events = EVENTS[:5]
        first = heard(UP, LATE, events)
        expected = copy.deepcopy(first)
        self.assertNotEqual(expected[6], [[]])
        first[6][0].clear()
        first[0].append([])
        first.pop(1)
        self.assertEqual(heard(UP, LATE, events), expected)
        comes = {6: 0}
        first_moments(UP, LATE, comes).clear()
        self.assertEqual((first_moments(UP, LATE, comes), comes), ({6: 11}, {6: 0}))

    def test_kinds(self):
        told = heard(UP, LATE, EVENTS[:5])
        self.assertTrue(all(type(row) is list for stays in told.values() for row in (stays, *stays)))
        self.assertTrue(all(type(entry) is tuple for stays in told.values() for stay in stays for entry in stay))
