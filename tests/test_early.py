"""Points 7 and 8, with 2 for what is told and handed in."""

import copy
import itertools
import unittest

from hearkenway.early import are_earliest, earliest, is_closed, ways
from hearkenway.errors import NoNet, NoPlace
from hearkenway.nets import is_tree, lateness
from tests.oracles import all_dicts, full_net, least_latenesses, rising_tuples, small_nets, walks
from tests.samples import NET, NO_DICTS, NO_NETS, NO_PLACES_OF_SIX

# 1 is reached soonest by the longest way round, and each shorter way is later.
ROUND = (5, ((0, 1, 0, 100), (0, 4, 0, 1), (2, 1, 0, 1), (3, 1, 0, 50), (3, 2, 0, 1), (4, 1, 0, 80), (4, 3, 0, 1)))
# The same with places numbered against the way, so that no single round over the roads finds it.
BACK = (12, tuple((place, place - 1, 1, 1000) for place in range(1, 12)))
EARLIEST_OF_NET = {0: 0, 1: 2, 2: 3, 3: 7, 4: 17}


class EarliestTest(unittest.TestCase):
    def test_by_hand(self):
        self.assertEqual(earliest(NET, 0), EARLIEST_OF_NET)
        self.assertEqual(earliest(NET, 5), {5: 0, 0: 1, 1: 1, 2: 4, 3: 6, 4: 16})
        self.assertEqual(earliest(NET, 4), {4: 0})
        self.assertEqual(earliest(ROUND, 0), {0: 0, 4: 1, 3: 2, 2: 3, 1: 4})
        self.assertEqual(earliest(BACK, 11), {place: 1000 * (11 - place) for place in range(12)})
        self.assertEqual(earliest(full_net(12, 3, 7), 6), {place: 0 if place == 6 else 7 for place in range(12)})

    def test_the_root_alone(self):
        self.assertEqual(earliest((1, ()), 0), {0: 0})
        self.assertEqual(earliest((12, ()), 7), {7: 0})
        self.assertEqual(earliest(BACK, 0), {0: 0})

    def test_prices_do_not_matter(self):
        net = (3, ((0, 1, 0, 9), (0, 2, 1000, 1), (2, 1, 1000, 1)))
        self.assertEqual(earliest(net, 0), {0: 0, 1: 2, 2: 1})

    def test_the_least_of_all_ways_in_all_nets_of_three_places(self):
        for net in small_nets(3, [(5, 1), (1, 2), (0, 4)]):
            for root in range(3):
                self.assertEqual(earliest(net, root), least_latenesses(net, root), (net, root))

    def test_the_least_of_all_ways_in_nets_of_seven_places(self):
        for net in nets_of_seven():
            self.assertEqual(earliest(net, 0), least_latenesses(net, 0), net)


def nets_of_seven():
    """Nets with some roads missing and lates that hop about, all made by reckoning."""
    for turn in range(40):
        roads = []
        for start, end in itertools.permutations(range(7), 2):
            mixed = (start * 31 + end * 17 + turn * 13) * (turn + 7) % 97
            if mixed % 5 < 3 and (turn % 2 or start != end + 1):
                roads.append((start, end, mixed % 11, 1 + mixed % 23))
        yield (7, tuple(roads))


class WaysTest(unittest.TestCase):
    def check(self, net, root):
        ahead = ways(net, root)
        self.assertIs(is_tree(net, root, ahead), True, (net, root))
        self.assertEqual(lateness(net, root, ahead), least_latenesses(net, root), (net, root))

    def test_by_hand(self):
        self.assertIn(ways(NET, 0), [{1: 0, 2: 0, 3: 1, 4: 3}, {1: 0, 2: 0, 3: 2, 4: 3}])
        self.assertEqual(ways(ROUND, 0), {4: 0, 3: 4, 2: 3, 1: 2})
        self.assertEqual(ways(BACK, 11), {place: place + 1 for place in range(11)})
        self.assertEqual(ways((1, ()), 0), {})
        self.assertEqual(ways(NET, 4), {})

    def test_several_as_early(self):
        net = (4, ((0, 1, 1, 2), (0, 2, 1, 2), (0, 3, 1, 4), (1, 3, 1, 2), (2, 3, 1, 2), (3, 0, 1, 1)))
        self.assertEqual(sum(way[-1] == 3 and late == 4 for way, late in walks(net, 0)), 3)
        self.check(net, 0)

    def test_all_nets_of_three_places(self):
        for net in small_nets(3, [(5, 1), (1, 2)]):
            for root in range(3):
                self.check(net, root)

    def test_nets_of_seven_places(self):
        for net in nets_of_seven():
            self.check(net, 0)


class AreEarliestTest(unittest.TestCase):
    def test_the_right_ones(self):
        for net, root in [(NET, 0), (NET, 5), (NET, 4), (ROUND, 0), (BACK, 11), ((1, ()), 0)]:
            self.assertIs(are_earliest(net, root, least_latenesses(net, root)), True)
            self.assertIs(are_earliest(net, root, earliest(net, root)), True)

    def test_one_number_more_or_less(self):
        for net, root in [(NET, 0), (NET, 5), (ROUND, 0), (BACK, 11), ((1, ()), 0)]:
            right = least_latenesses(net, root)
            for place, step in itertools.product(right, (-1, 1)):
                with self.subTest((net, root, place, step)):
                    self.assertIs(are_earliest(net, root, {**right, place: right[place] + step}), False)

    def test_all_but_the_roots_more_or_less(self):
        for net, root in [(NET, 0), (NET, 5), (ROUND, 0), (BACK, 11)]:
            right = least_latenesses(net, root)
            for step in (-1, 1):
                moved = {place: right[place] + (step if place != root else 0) for place in right}
                with self.subTest((net, root, step)):
                    self.assertIs(are_earliest(net, root, moved), False)

    def test_all_numbers_moved_with_the_roots(self):
        for step in (-1, 1):
            moved = {place: number + step for place, number in EARLIEST_OF_NET.items()}
            self.assertIs(are_earliest(NET, 0, moved), False)

    def test_a_place_left_out(self):
        for place in EARLIEST_OF_NET:
            left = {key: number for key, number in EARLIEST_OF_NET.items() if key != place}
            with self.subTest(place):
                self.assertIs(are_earliest(NET, 0, left), False)
        self.assertIs(are_earliest(NET, 0, {}), False)
        self.assertIs(are_earliest((1, ()), 0, {}), False)

    def test_a_place_put_in(self):
        for place, number in itertools.product((5, 6, -1, 99), (-1, 0, 1, 2, 18)):
            with self.subTest((place, number)):
                self.assertIs(are_earliest(NET, 0, {**EARLIEST_OF_NET, place: number}), False)
        self.assertIs(are_earliest((1, ()), 0, {0: 0, 1: 0}), False)

    def test_places_that_lead_to_one_another_but_cannot_be_reached(self):
        net = (4, ((0, 1, 1, 1), (2, 3, 1, 5), (3, 2, 1, 5)))
        self.assertIs(are_earliest(net, 0, {0: 0, 1: 1}), True)
        for numbers in all_dicts((2, 3), range(-6, 7)):
            if numbers:
                self.assertIs(are_earliest(net, 0, {0: 0, 1: 1, **numbers}), False, numbers)

    def test_things_that_are_no_dicts_of_whole_numbers(self):
        for thing in [*NO_DICTS, {False: 0}, {0: False}, {0: 0.0}]:
            with self.subTest(repr(thing)):
                self.assertIs(are_earliest((1, ()), 0, thing), False)

    def test_just_the_one_of_all_dicts_in_all_nets_of_three_places(self):
        dicts = list(all_dicts((0, 1, 2), range(-1, 4)))
        for net in small_nets(3, [(1, 1), (1, 2)]):
            right = least_latenesses(net, 0)
            for numbers in dicts:
                self.assertIs(are_earliest(net, 0, numbers), numbers == right, (net, numbers))


class IsClosedTest(unittest.TestCase):
    def test_closed(self):
        for root, places in [
            (0, (0, 1, 2, 3, 4)),
            (3, (0, 1, 2, 3, 4)),
            (0, (0, 1, 2, 3, 4, 5)),
            (4, (4,)),
            (5, (0, 1, 2, 3, 4, 5)),
        ]:
            with self.subTest((root, places)):
                self.assertIs(is_closed(NET, root, places), True)
        self.assertIs(is_closed((1, ()), 0, (0,)), True)
        self.assertIs(is_closed((12, ()), 3, (0, 3, 11)), True)
        self.assertIs(is_closed(full_net(12), 3, tuple(range(12))), True)

    def test_the_root_left_out(self):
        for root, places in [(0, ()), (0, (4,)), (5, (0, 1, 2, 3, 4)), (1, (4,)), (4, ())]:
            with self.subTest((root, places)):
                self.assertIs(is_closed(NET, root, places), False)

    def test_not_rising_or_a_place_twice(self):
        for places in [(1, 0, 2, 3, 4), (0, 1, 2, 4, 3), (0, 0, 1, 2, 3, 4), (0, 1, 2, 3, 4, 4), (4, 3, 2, 1, 0)]:
            with self.subTest(places):
                self.assertIs(is_closed(NET, 0, places), False)

    def test_no_place(self):
        for places in [(-1, 0, 1, 2, 3, 4), (0, 1, 2, 3, 4, 6), (0, 1, 2, 3, 4, 5, 6), (0, 1, 2, 3, 4, 10**30)]:
            with self.subTest(places):
                self.assertIs(is_closed(NET, 0, places), False)

    def test_a_road_that_leads_out(self):
        for places in [(0,), (0, 1), (0, 1, 2, 3), (0, 1, 2, 4), (0, 1, 3, 4), (0, 2, 3, 4), (0, 4, 5)]:
            with self.subTest(places):
                self.assertIs(is_closed(NET, 0, places), False)

    def test_things_that_are_no_tuples_of_whole_numbers(self):
        for thing in [None, 0, "", [], [0], {0: 0}, {0}, (False,), (0.0,), ("0",), (0, None)]:
            with self.subTest(repr(thing)):
                self.assertIs(is_closed((1, ()), 0, thing), False)

    def test_all_tuples_in_all_nets_of_three_places(self):
        tuples = [row for many in range(5) for row in itertools.product(range(-1, 4), repeat=many)]
        rising = [row for row in rising_tuples(range(3)) if 1 in row]
        for net in small_nets(3, [(1, 1)]):
            reached = {place: set(least_latenesses(net, place)) for place in range(3)}
            closed = [row for row in rising if set().union(*[reached[place] for place in row]) == set(row)]
            for row in tuples:
                self.assertIs(is_closed(net, 1, row), row in closed, (net, row))


ASKED = [(earliest, ()), (ways, ()), (are_earliest, ({0: 0},)), (is_closed, ((0,),))]
ASKED_AMISS = [(earliest, ()), (ways, ()), (are_earliest, ({9: -1},)), (is_closed, ((9, 3),))]


class RefusalsTest(unittest.TestCase):
    def test_what_is_no_net(self):
        for net in [*NO_NETS, (3, ((0, 2, 1, 1), (0, 1, 1, 1)))]:
            for ask, more in ASKED:
                with self.subTest((ask.__name__, repr(net))), self.assertRaises(NoNet):
                    ask(net, 0, *more)

    def test_a_root_that_is_none(self):
        for root in NO_PLACES_OF_SIX:
            for ask, more in ASKED:
                with self.subTest((ask.__name__, repr(root))), self.assertRaises(NoPlace):
                    ask(NET, root, *more)

    def test_two_at_once(self):
        for ask, more in ASKED_AMISS:
            with self.subTest(ask.__name__):
                self.assertRaises(NoNet, ask, (0, ()), 7, *more)
                self.assertRaises(NoNet, ask, (3, [(0, 1, 1, 1)]), True, *more)
                self.assertRaises(NoPlace, ask, NET, 6, *more)


class HandedInAndToldTest(unittest.TestCase):
    def test_what_is_handed_in_stays(self):
        for numbers in [EARLIEST_OF_NET, {}, {0: 0}, {0: 0, 9: 9}, {1: 1}]:
            given = copy.deepcopy(numbers)
            are_earliest(NET, 0, given)
            self.assertEqual(list(given.items()), list(numbers.items()))

    def test_what_is_told_is_the_askers_own(self):
        for ask in (earliest, ways):
            for net, root in [(NET, 0), ((1, ()), 0)]:
                first = ask(net, root)
                expected = dict(first)
                first[0] = 99
                first[77] = 1
                self.assertEqual(ask(net, root), expected)
                self.assertIsNot(ask(net, root), ask(net, root))
