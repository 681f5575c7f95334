"""Points 13 and 14, with 2 for what is told and handed in."""

import copy
import itertools
import random
import unittest

from hearkenway.errors import NoNet, NoPlace, NoTree
from hearkenway.grafts import are_prices, cut, graft
from hearkenway.nets import is_tree, is_trim
from tests.oracles import (
    all_dicts,
    full_net,
    grown_trees,
    mixed_nets,
    prices_hold,
    reached_from,
    rising_tuples,
    serving,
    small_nets,
    smaller_dicts,
    ways_out,
)
from tests.refusals import check_refusals
from tests.samples import NET, NO_DICTS, NO_TREES_OF_NET

# All are in it but 5, which can't be reached.
WHOLE = {1: 0, 2: 0, 3: 1, 4: 3}


class GraftTest(unittest.TestCase):
    def check(self, net, root, ahead, place):
        told = graft(net, root, ahead, place)
        self.assertIs(type(told), tuple)
        grown, total, numbers = told
        self.assertTrue(prices_hold(net, root, ahead, numbers), (net, root, ahead, place, numbers))
        self.assertIs(are_prices(net, root, ahead, numbers), True)
        inside = {root, *ahead}
        outside = ways_out(net, inside, place)
        if not outside:
            self.assertEqual((grown, total), (None, None))
            self.assertNotIn(place, numbers)
            return
        self.assertEqual(total, min(outside.values()), (net, root, ahead, place))
        self.assertEqual(numbers[place], total)
        self.check_way(root, ahead, place, grown, total, outside)
        self.assertIs(is_tree(net, root, grown), True)

    def check_way(self, root, ahead, place, grown, total, outside):
        """The new tree is the old one with a way of that price."""
        way = [place]
        while way[0] not in ahead and way[0] != root:
            way.insert(0, grown[way[0]])
        self.assertEqual(outside[tuple(way)], total)
        self.assertEqual(grown, {**ahead, **dict(zip(way[1:], way))})

    def test_by_hand(self):
        numbers = {0: 0, 1: 4, 2: 1, 3: 6, 4: 3}
        self.assertEqual(graft(NET, 0, {}, 3), ({1: 0, 3: 1}, 6, numbers))
        self.assertEqual(graft(NET, 0, {2: 0}, 3), ({2: 0, 1: 0, 3: 1}, 6, {**numbers, 2: 0}))
        self.assertEqual(graft(NET, 0, {1: 0}, 3), ({1: 0, 3: 1}, 2, {0: 0, 1: 0, 2: 1, 3: 2, 4: 3}))

    def test_a_place_in_the_tree(self):
        for place in (0, 1, 2, 3, 4):
            grown, total, numbers = graft(NET, 0, WHOLE, place)
            self.assertEqual((grown, total), (WHOLE, 0))
            self.assertIs(are_prices(NET, 0, WHOLE, numbers), True)
        self.assertEqual(graft((1, ()), 0, {}, 0), ({}, 0, {0: 0}))

    def test_a_place_that_cannot_be_reached(self):
        self.assertEqual(graft((2, ()), 0, {}, 1), (None, None, {0: 0}))
        grown, total, numbers = graft(NET, 0, WHOLE, 5)
        self.assertEqual((grown, total), (None, None))
        self.assertEqual(numbers, {0: 0, 1: 0, 2: 0, 3: 0, 4: 0})
        self.check(NET, 0, {2: 0}, 5)

    def test_roads_of_price_nought_lead_through_no_place_in_the_tree(self):
        net = full_net(5, 0, 1)
        for ahead in [{}, {1: 0}, {1: 0, 2: 1}, {1: 0, 2: 1, 3: 2}]:
            for place in range(5):
                self.check(net, 0, ahead, place)
        # By 1, which is in the tree already, there is a way for as little.
        ring = (4, ((0, 1, 0, 1), (0, 2, 0, 1), (1, 2, 0, 1), (2, 1, 0, 1), (1, 3, 0, 1), (2, 3, 0, 1)))
        ring = (4, tuple(sorted(ring[1])))
        for ahead in [{1: 0}, {2: 0}, {2: 0, 1: 2}, {1: 0, 2: 1}]:
            self.check(ring, 0, ahead, 3)

    def test_the_greatest(self):
        net = (12, tuple((place, place + 1, 1000, 1000) for place in range(11)))
        way = {place: place - 1 for place in range(1, 12)}
        self.assertEqual(graft(net, 0, {}, 11), (way, 11000, {place: 1000 * place for place in range(12)}))

    def test_all_trees_of_all_nets_of_three_places(self):
        for net in small_nets(3, [(0, 1), (1, 1), (3, 1)]):
            for tree, place in itertools.product(grown_trees(net, 0), range(3)):
                self.check(net, 0, tree, place)

    def test_trees_of_nets_of_four_to_six_places(self):
        for places in (4, 5, 6):
            for net in mixed_nets(60 + places, places, 20, 5, 3):
                root = places - 2
                for tree in grown_trees(net, root)[:: places * 3]:
                    for place in range(places):
                        self.check(net, root, tree, place)

    def test_numbers_tell_of_each_place_that_can_be_reached(self):
        for net in mixed_nets(67, 6, 20, 5, 3):
            numbers = graft(net, 0, {}, 0)[2]
            self.assertEqual(set(numbers), reached_from(net, 0))


class ArePricesTest(unittest.TestCase):
    def test_such(self):
        least = {0: 0, 1: 4, 2: 1, 3: 6, 4: 3}
        for numbers in [
            least,
            {place: 0 for place in range(5)},
            {place: 0 for place in range(6)},
            {**least, 3: 5},
            {**least, 2: 0},
            {**least, 5: 3},
            {**least, 5: 10**30},
        ]:
            with self.subTest(numbers):
                self.assertIs(are_prices(NET, 0, {}, numbers), True)

    def test_one_number_greater_or_left_out(self):
        least = {0: 0, 1: 4, 2: 1, 3: 6, 4: 3}
        for place in least:
            self.assertIs(are_prices(NET, 0, {}, {**least, place: least[place] + 1}), False)
            self.assertIs(are_prices(NET, 0, {}, {key: least[key] for key in least if key != place}), False)
        self.assertIs(are_prices(NET, 0, {}, {}), False)
        # By 1 for nothing 3 would cost 2.
        self.assertIs(are_prices(NET, 0, {}, {**least, 1: 0}), False)

    def test_those_of_the_tree_have_nought(self):
        good = {0: 0, 1: 0, 2: 1, 3: 2, 4: 3}
        self.assertIs(are_prices(NET, 0, {1: 0}, good), True)
        self.assertIs(are_prices(NET, 0, {1: 0, 3: 1}, good), False)
        self.assertIs(are_prices(NET, 0, {1: 0, 3: 1}, {**good, 3: 0}), True)
        self.assertIs(are_prices(NET, 0, {}, {**good, 0: 1}), False)
        self.assertIs(are_prices((2, ((0, 1, 5, 1),)), 0, {1: 0}, {0: 0, 1: 1}), False)
        self.assertIs(are_prices((2, ((0, 1, 5, 1),)), 0, {1: 0}, {0: 0, 1: 0}), True)
        self.assertIs(are_prices((2, ((0, 1, 5, 1),)), 0, {}, {0: 0, 1: 1}), True)

    def test_of_places_that_cannot_be_reached_too(self):
        least = {0: 0, 1: 4, 2: 1, 3: 6, 4: 3}
        self.assertIs(are_prices(NET, 0, {}, {**least, 5: 2}), False)
        self.assertIs(are_prices((3, ((1, 2, 1, 1),)), 0, {}, {0: 0, 1: 5}), False)
        self.assertIs(are_prices((3, ((1, 2, 1, 1),)), 0, {}, {0: 0, 1: 5, 2: 6}), True)
        self.assertIs(are_prices((3, ((1, 2, 1, 1),)), 0, {}, {0: 0, 2: 6}), True)

    def test_numbers_below_nought_and_no_places(self):
        for place in range(1, 5):
            self.assertIs(are_prices(NET, 0, {}, {**{at: 0 for at in range(5)}, place: -1}), False)
        self.assertIs(are_prices((2, ()), 0, {}, {0: 0, 1: -1}), False)
        for place in (-1, 6, 10**30):
            self.assertIs(are_prices(NET, 0, {}, {**{at: 0 for at in range(5)}, place: 0}), False)

    def test_things_that_are_no_dicts_of_whole_numbers(self):
        for thing in [*NO_DICTS, {False: 0}, {0: False}, {0: 0.0}]:
            with self.subTest(repr(thing)):
                self.assertIs(are_prices((1, ()), 0, {}, thing), False)

    def test_all_dicts_in_all_nets_of_three_places(self):
        dicts = list(all_dicts((0, 1, 2), range(-1, 4)))
        for net in small_nets(3, [(2, 1)]):
            for tree in grown_trees(net, 0):
                for numbers in dicts:
                    expected = prices_hold(net, 0, tree, numbers)
                    self.assertIs(are_prices(net, 0, tree, numbers), expected, (net, tree, numbers))

    def test_then_no_way_costs_less(self):
        dice = random.Random(3)
        for net in mixed_nets(71, 5, 40, 4, 2):
            for tree in grown_trees(net, 0)[::9]:
                numbers = {place: dice.randint(0, 4) for place in reached_from(net, 0)}
                numbers.update({place: 0 for place in (0, *tree)})
                if are_prices(net, 0, tree, numbers):
                    for place in range(5):
                        prices = ways_out(net, {0, *tree}, place).values()
                        self.assertTrue(all(numbers[place] <= price for price in prices))


class CutTest(unittest.TestCase):
    def test_by_hand(self):
        for hearers, told in [
            ((0, 1, 2, 3, 4), WHOLE),
            ((2, 4), WHOLE),
            ((4,), {1: 0, 3: 1, 4: 3}),
            ((1, 3), {1: 0, 3: 1}),
            ((1, 2), {1: 0, 2: 0}),
            ((2,), {2: 0}),
            ((0,), {}),
            ((), {}),
        ]:
            with self.subTest(hearers):
                self.assertEqual(cut(NET, 0, hearers, WHOLE), told)
        self.assertEqual(cut((1, ()), 0, (), {}), {})
        self.assertEqual(cut((1, ()), 0, (0,), {}), {})

    def test_cut_again(self):
        for hearers in rising_tuples(range(5)):
            once = cut(NET, 0, hearers, WHOLE)
            self.assertEqual(cut(NET, 0, hearers, once), once)
            for fewer in rising_tuples(hearers):
                self.assertEqual(cut(NET, 0, fewer, once), cut(NET, 0, fewer, WHOLE))

    def test_more_than_six_hearers(self):
        net = full_net(12)
        ahead = {place: place - 1 for place in range(1, 12)}
        self.assertEqual(cut(net, 0, tuple(range(12)), ahead), ahead)
        self.assertEqual(cut(net, 0, tuple(range(10)), ahead), {place: place - 1 for place in range(1, 10)})

    def test_the_only_trim_tree_within(self):
        for net in [NET, *mixed_nets(72, 5, 6, 3, 3)]:
            for tree in grown_trees(net, 0)[::5]:
                within = [tree, *smaller_dicts(tree)]
                for hearers in rising_tuples(range(5)):
                    if serving(0, hearers, tree):
                        trim = [some for some in within if is_trim(net, 0, hearers, some)]
                        self.assertEqual([cut(net, 0, hearers, tree)], trim)

    def test_what_is_not_served_is_refused(self):
        for hearers, ahead in [
            ((1,), {}),
            ((5,), WHOLE),
            ((1, 5), WHOLE),
            ((0, 2), {1: 0}),
            ((3,), {1: 0}),
            ((1, 2), {1: 0}),
        ]:
            with self.subTest((hearers, ahead)), self.assertRaises(NoTree):
                cut(NET, 0, hearers, ahead)


class RefusalsTest(unittest.TestCase):
    def test_alone_and_two_at_once(self):
        check_refusals(self, graft, ["net", "place", "tree", "place"])
        for numbers in ({}, {0: 0}, None):
            check_refusals(self, are_prices, ["net", "place", "tree", [numbers]])
        check_refusals(self, cut, ["net", "place", "hearers", "tree"])

    def test_three_at_once(self):
        no_net = (6, ((0, 0, 1, 1),))
        self.assertRaises(NoNet, graft, no_net, 9, {0: 0}, 9)
        self.assertRaises(NoNet, are_prices, no_net, 9, {0: 0}, {})
        self.assertRaises(NoNet, cut, no_net, 9, (2, 1), {0: 0})
        for ahead in NO_TREES_OF_NET + NO_DICTS:
            self.assertRaises(NoPlace, graft, NET, 0, ahead, 6)
            self.assertRaises(NoPlace, graft, NET, 6, ahead, 0)
            self.assertRaises(NoPlace, cut, NET, 0, (2, 1), ahead)

    def test_a_place_that_is_none_goes_ahead_of_one_that_is_not_served(self):
        self.assertRaises(NoPlace, cut, NET, 0, (5, 6), {1: 0})
        self.assertRaises(NoPlace, cut, NET, 6, (5,), {1: 0})


class HandedInAndToldTest(unittest.TestCase):
    def test_what_is_handed_in_stays(self):
        for ahead in [WHOLE, {1: 0}, {}]:
            given = dict(ahead)
            for place in range(6):
                graft(NET, 0, given, place)
            cut(NET, 0, (0,), given)
            numbers = {0: 0, 1: 0}
            are_prices(NET, 0, given, numbers)
            self.assertEqual(list(given.items()), list(ahead.items()))
            self.assertEqual(numbers, {0: 0, 1: 0})

    def test_what_is_told_is_the_askers_own(self):
        for ahead, place in [(WHOLE, 4), (WHOLE, 5), ({1: 0}, 4), ({}, 0)]:
            given = dict(ahead)
            first = graft(NET, 0, given, place)
            expected = copy.deepcopy(first)
            if first[0] is not None:
                first[0][77] = 1
            first[2].clear()
            self.assertEqual(given, ahead)
            self.assertEqual(graft(NET, 0, given, place), expected)
        given = dict(WHOLE)
        cut(NET, 0, (0, 1, 2, 3, 4), given).clear()
        self.assertEqual(given, WHOLE)

    def test_nothing_is_kept(self):
        given = dict(WHOLE)
        told = graft(NET, 0, given, 4), cut(NET, 0, (2, 4), given)
        given.clear()
        self.assertEqual((told[0][0], told[1]), (WHOLE, WHOLE))
