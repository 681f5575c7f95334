"""Points 4, 5 and 6, with 2 for what is told and handed in."""

import copy
import itertools
import unittest

from hearkenway.errors import NoNet, NoPlace, NoTree
from hearkenway.nets import is_net, is_tree, is_trim, lateness, price
from tests.oracles import all_dicts, full_net, grown_trees, rising_tuples, serving, small_nets, smaller_dicts
from tests.samples import (
    NET,
    NO_DICTS,
    NO_HEARERS_OF_SIX,
    NO_NETS,
    NO_PLACES_OF_SIX,
    NO_ROADS_OF_THREE,
    NO_TREES_OF_NET,
)

CHAIN = {1: 0, 2: 0, 3: 1, 4: 3}


class IsNetTest(unittest.TestCase):
    def test_nets(self):
        nets = [
            (1, ()),
            (2, ()),
            (12, ()),
            (2, ((0, 1, 0, 1),)),
            (2, ((1, 0, 1000, 1000),)),
            (2, ((0, 1, 0, 1000), (1, 0, 1000, 1))),
            (12, ((11, 10, 0, 1),)),
            full_net(12, 0, 1),
            full_net(12, 1000, 1000),
            NET,
        ]
        for net in nets:
            with self.subTest(net):
                self.assertIs(is_net(net), True)

    def test_a_road_back_is_another_pair(self):
        self.assertIs(is_net((3, ((0, 1, 5, 5), (1, 0, 5, 5)))), True)

    def test_later_roads_may_have_lesser_prices_and_lates(self):
        self.assertIs(is_net((3, ((0, 1, 9, 9), (0, 2, 1, 1), (2, 1, 0, 1)))), True)

    def test_things_that_are_none(self):
        for thing in NO_NETS:
            with self.subTest(repr(thing)):
                self.assertIs(is_net(thing), False)

    def test_roads_that_are_none_wherever_they_stand(self):
        for road in NO_ROADS_OF_THREE:
            for roads in [(road,), ((0, 1, 0, 1), road), (road, (2, 1, 5, 5)), (road, road)]:
                with self.subTest(repr(roads)):
                    self.assertIs(is_net((3, roads)), False)

    def test_a_road_is_measured_by_the_places_that_there_are(self):
        for places in range(1, 13):
            with self.subTest(places):
                self.assertIs(is_net((places, ((0, places, 1, 1),))), False)
                self.assertIs(is_net((places, ((places, 0, 1, 1),))), False)
                self.assertIs(is_net((places + 1, ((0, places, 1, 1),))), places < 12)

    def test_roads_that_do_not_rise(self):
        for roads in [
            ((0, 2, 1, 1), (0, 1, 1, 1)),
            ((1, 0, 1, 1), (0, 1, 1, 1)),
            ((0, 1, 1, 1), (2, 0, 1, 1), (1, 0, 1, 1)),
            ((1, 2, 1, 1), (0, 1, 9, 9), (2, 1, 1, 1)),
        ]:
            with self.subTest(roads):
                self.assertIs(is_net((3, roads)), False)
                self.assertIs(is_net((3, tuple(sorted(roads)))), True)

    def test_a_road_twice_and_two_roads_of_one_pair(self):
        for roads in [
            ((0, 1, 1, 1), (0, 1, 1, 1)),
            ((0, 1, 1, 1), (0, 1, 1, 2)),
            ((0, 1, 1, 1), (0, 1, 2, 1)),
            ((0, 1, 1, 2), (0, 1, 2, 1)),
            ((0, 1, 1, 1), (1, 2, 1, 1), (1, 2, 1, 3), (2, 0, 1, 1)),
        ]:
            with self.subTest(roads):
                self.assertIs(is_net((3, roads)), False)

    def test_a_list_handed_in_stays(self):
        thing = (2, [[0, 1, 1, 1]])
        is_net(thing)
        self.assertEqual(thing, (2, [[0, 1, 1, 1]]))


class IsTreeTest(unittest.TestCase):
    def test_trees_by_hand(self):
        for ahead in [{}, {1: 0}, {2: 0}, {1: 0, 2: 0}, {1: 0, 3: 1}, {3: 1, 1: 0}, {4: 3, 3: 2, 2: 0}, CHAIN]:
            with self.subTest(ahead):
                self.assertIs(is_tree(NET, 0, ahead), True)

    def test_the_root_alone(self):
        self.assertIs(is_tree((1, ()), 0, {}), True)
        self.assertIs(is_tree((1, ()), 0, {0: 0}), False)

    def test_a_way_through_all_twelve(self):
        ahead = {place: place + 1 for place in range(11)}
        self.assertIs(is_tree(full_net(12), 11, ahead), True)
        self.assertIs(is_tree(full_net(12), 11, {**ahead, 10: 0}), False)
        self.assertIs(is_tree(full_net(12), 11, {**ahead, 10: 9}), False)

    def test_another_root_makes_other_trees(self):
        self.assertIs(is_tree(NET, 5, {0: 5, 1: 5, 2: 0}), True)
        self.assertIs(is_tree(NET, 0, {0: 5, 1: 5, 2: 0}), False)
        self.assertIs(is_tree(NET, 1, {}), True)

    def test_dicts_that_are_none(self):
        for ahead in NO_TREES_OF_NET:
            with self.subTest(ahead):
                self.assertIs(is_tree(NET, 0, ahead), False)

    def test_rings(self):
        for ahead in [{1: 2, 2: 1}, {1: 2, 2: 3, 3: 1}, {1: 0, 2: 3, 3: 2}, {1: 2, 2: 3, 3: 2}, {1: 1}]:
            with self.subTest(ahead):
                self.assertIs(is_tree(full_net(4), 0, ahead), False)

    def test_things_that_are_no_dicts_of_whole_numbers(self):
        for thing in NO_DICTS:
            with self.subTest(repr(thing)):
                self.assertIs(is_tree(NET, 0, thing), False)

    def test_just_the_grown_trees_of_all_nets_of_three_places(self):
        dicts = list(all_dicts((0, 1, 2), (0, 1, 2)))
        for net in small_nets(3, [(1, 1)]):
            for root in range(3):
                trees = grown_trees(net, root)
                for ahead in dicts:
                    self.assertIs(is_tree(net, root, ahead), ahead in trees, (net, root, ahead))

    def test_just_the_grown_trees_of_one_net_of_four_places(self):
        net = (4, ((0, 1, 1, 1), (1, 2, 1, 1), (1, 3, 1, 1), (2, 1, 1, 1), (2, 3, 1, 1), (3, 0, 1, 1), (3, 2, 1, 1)))
        trees = grown_trees(net, 0)
        for ahead in all_dicts((0, 1, 2, 3, 4), (-1, 0, 1, 2, 3, 4)):
            self.assertIs(is_tree(net, 0, ahead), ahead in trees, ahead)


class IsTrimTest(unittest.TestCase):
    def test_trim_by_hand(self):
        for hearers, ahead in [
            ((), {}),
            ((0,), {}),
            ((1,), {1: 0}),
            ((0, 1), {1: 0}),
            ((3,), {1: 0, 3: 1}),
            ((1, 3), {1: 0, 3: 1}),
            ((2, 4), CHAIN),
            ((0, 1, 2, 3, 4), CHAIN),
        ]:
            with self.subTest((hearers, ahead)):
                self.assertIs(is_trim(NET, 0, hearers, ahead), True)

    def test_keys_that_are_neither_hearers_nor_ahead_of_another(self):
        for hearers, ahead in [
            ((), {1: 0}),
            ((0,), {1: 0}),
            ((1,), {1: 0, 2: 0}),
            ((1,), {1: 0, 3: 1}),
            ((2, 3), CHAIN),
            ((4,), CHAIN),
        ]:
            with self.subTest((hearers, ahead)):
                self.assertIs(is_tree(NET, 0, ahead), True)
                self.assertIs(is_trim(NET, 0, hearers, ahead), False)

    def test_hearers_that_are_not_served(self):
        for hearers, ahead in [((1,), {}), ((2,), {1: 0}), ((1, 2), {1: 0}), ((5,), {}), ((4, 5), {4: 0})]:
            with self.subTest((hearers, ahead)):
                self.assertIs(is_trim(NET, 0, hearers, ahead), False)

    def test_no_tree_is_trim(self):
        for ahead in NO_TREES_OF_NET + NO_DICTS:
            with self.subTest(repr(ahead)):
                self.assertIs(is_trim(NET, 0, (), ahead), False)
        self.assertIs(is_trim(NET, 0, (1,), {1: 5}), False)
        self.assertIs(is_trim(NET, 0, (0,), {0: 3}), False)
        self.assertIs(is_trim(full_net(4), 0, (1, 2), {1: 2, 2: 1}), False)

    def test_trim_is_serving_with_nothing_to_spare(self):
        net = (4, ((0, 1, 1, 1), (0, 2, 1, 1), (1, 2, 1, 1), (1, 3, 1, 1), (2, 3, 1, 1), (3, 1, 1, 1)))
        trees = grown_trees(net, 0)
        for ahead, hearers in itertools.product(trees, list(rising_tuples(range(4)))):
            lesser = [some for some in smaller_dicts(ahead) if some in trees and serving(0, hearers, some)]
            trim = serving(0, hearers, ahead) and not lesser
            self.assertIs(is_trim(net, 0, hearers, ahead), trim, (hearers, ahead))


class PriceAndLatenessTest(unittest.TestCase):
    def test_the_empty_tree(self):
        self.assertEqual(price(NET, 3, {}), 0)
        self.assertEqual(lateness(NET, 3, {}), {3: 0})
        self.assertEqual(price((1, ()), 0, {}), 0)
        self.assertEqual(lateness((1, ()), 0, {}), {0: 0})

    def test_trees_by_hand(self):
        self.assertEqual(price(NET, 0, CHAIN), 4 + 1 + 2 + 9)
        self.assertEqual(lateness(NET, 0, CHAIN), {0: 0, 1: 2, 2: 3, 3: 7, 4: 17})
        self.assertEqual(price(NET, 0, {4: 0}), 3)
        self.assertEqual(lateness(NET, 0, {4: 0}), {0: 0, 4: 18})
        self.assertEqual(price(NET, 5, {0: 5, 2: 0, 3: 2}), 1 + 1 + 7)
        self.assertEqual(lateness(NET, 5, {3: 2, 2: 0, 0: 5}), {5: 0, 0: 1, 2: 4, 3: 8})

    def test_a_road_is_taken_in_its_own_direction(self):
        net = (2, ((0, 1, 3, 4), (1, 0, 50, 60)))
        self.assertEqual((price(net, 0, {1: 0}), lateness(net, 0, {1: 0})), (3, {0: 0, 1: 4}))
        self.assertEqual((price(net, 1, {0: 1}), lateness(net, 1, {0: 1})), (50, {1: 0, 0: 60}))

    def test_the_greatest(self):
        ahead = {place: place - 1 for place in range(1, 12)}
        net = full_net(12, 1000, 1000)
        self.assertEqual(price(net, 0, ahead), 11000)
        self.assertEqual(lateness(net, 0, ahead), {place: 1000 * place for place in range(12)})

    def test_no_trees_are_refused(self):
        for ask in (price, lateness):
            for ahead in NO_TREES_OF_NET + NO_DICTS:
                with self.subTest((ask.__name__, repr(ahead))), self.assertRaises(NoTree):
                    ask(NET, 0, ahead)


class RefusalsTest(unittest.TestCase):
    def test_what_is_no_net(self):
        for net in [*NO_NETS, (3, ((0, 2, 1, 1), (0, 1, 1, 1)))]:
            with self.subTest(repr(net)):
                for ask in (is_tree, price, lateness):
                    self.assertRaises(NoNet, ask, net, 0, {})
                self.assertRaises(NoNet, is_trim, net, 0, (), {})

    def test_a_root_that_is_none(self):
        for root in NO_PLACES_OF_SIX:
            with self.subTest(repr(root)):
                for ask in (is_tree, price, lateness):
                    self.assertRaises(NoPlace, ask, NET, root, {})
                self.assertRaises(NoPlace, is_trim, NET, root, (), {})

    def test_hearers_that_are_none(self):
        for hearers in NO_HEARERS_OF_SIX:
            with self.subTest(repr(hearers)):
                self.assertRaises(NoPlace, is_trim, NET, 0, hearers, {})

    def test_no_net_goes_ahead_of_all(self):
        no_net = (3, ((0, 0, 1, 1),))
        for root, ahead in [(9, {}), (0, {0: 0}), (9, {0: 0}), (None, None)]:
            for ask in (is_tree, price, lateness):
                self.assertRaises(NoNet, ask, no_net, root, ahead)
        amiss = [(9, (), {}), (0, (2, 1), {}), (9, (2, 1), {}), (0, (), {0: 0}), (None, None, None)]
        for root, hearers, ahead in amiss:
            self.assertRaises(NoNet, is_trim, no_net, root, hearers, ahead)

    def test_no_place_goes_ahead_of_no_tree(self):
        for ahead in NO_TREES_OF_NET + NO_DICTS:
            for ask in (is_tree, price, lateness):
                self.assertRaises(NoPlace, ask, NET, 6, ahead)
            self.assertRaises(NoPlace, is_trim, NET, 6, (), ahead)
            self.assertRaises(NoPlace, is_trim, NET, 0, (2, 1), ahead)
            self.assertRaises(NoPlace, is_trim, NET, 6, (2, 1), ahead)


class HandedInAndToldTest(unittest.TestCase):
    def test_what_is_handed_in_stays(self):
        for ahead in [CHAIN, {}, *NO_TREES_OF_NET]:
            given = copy.deepcopy(ahead)
            is_tree(NET, 0, given)
            is_trim(NET, 0, (2, 4), given)
            for ask in (price, lateness):
                try:
                    ask(NET, 0, given)
                except NoTree:
                    pass
            self.assertEqual(list(given.items()), list(ahead.items()))

    def test_nothing_is_kept(self):
        ahead = dict(CHAIN)
        told = lateness(NET, 0, ahead)
        ahead.clear()
        self.assertEqual(told, {0: 0, 1: 2, 2: 3, 3: 7, 4: 17})
        self.assertEqual(lateness(NET, 0, ahead), {0: 0})
        self.assertEqual(price(NET, 0, ahead), 0)

    def test_what_is_told_is_the_askers_own(self):
        for ahead in [CHAIN, {}]:
            first = lateness(NET, 0, ahead)
            expected = dict(first)
            first[0] = 99
            first[77] = 1
            self.assertEqual(lateness(NET, 0, ahead), expected)
