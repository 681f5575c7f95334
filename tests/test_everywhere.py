"""Point 27, with 2 for what is told and handed in."""

import copy
import itertools
import random
import unittest

from hearkenway.everywhere import are_weights, everywhere, shows_everywhere
from hearkenway.nets import is_tree, price
from tests.oracles import (
    full_net,
    grown_trees,
    least_price_of_all,
    least_set_prices,
    leads_home,
    mixed_nets,
    price_of,
    reached_from,
    rising_tuples,
    small_nets,
    weights_hold,
)
from tests.refusals import check_refusals
from tests.samples import NET

# From 0: 1, 2, 3 and 4 are reached, for 4 + 1 + 2 + 3; 5 isn't.
WEIGHTS_OF_NET = [((1,), 4), ((2,), 1), ((3,), 2), ((4,), 3)]

# The places 1 and 2 lead to each other for nothing, and so do 3 and 4; from 0 it costs much.
RINGS = (
    5,
    (
        (0, 1, 9, 1),
        (0, 3, 8, 1),
        (1, 2, 0, 1),
        (1, 3, 3, 1),
        (2, 1, 0, 1),
        (3, 4, 0, 1),
        (4, 2, 5, 1),
        (4, 3, 0, 1),
    ),
)


class EverywhereTest(unittest.TestCase):
    def check(self, net, root):
        told = everywhere(net, root)
        self.assertIs(type(told), tuple)
        ahead, weights = told
        self.assertEqual({root, *ahead}, reached_from(net, root), (net, root))
        self.assertTrue(leads_home(net, root, ahead), (net, root, ahead))
        self.assertIs(is_tree(net, root, ahead), True)
        self.assertIs(type(weights), list)
        for entry in weights:
            self.assertEqual([type(part) for part in (entry, *entry)], [tuple, tuple, int])
        self.assertTrue(weights_hold(net, root, weights), (net, root, weights))
        self.assertIs(are_weights(net, root, weights), True)
        total = sum(weight for places, weight in weights)
        self.assertEqual(price_of(net, ahead), total, (net, root))
        self.assertIs(shows_everywhere(net, root, weights, total), True)
        self.assertIs(shows_everywhere(net, root, weights, total + 1), False)
        return total

    def test_by_hand(self):
        self.assertEqual(everywhere((1, ()), 0), ({}, []))
        self.assertEqual(everywhere((12, ()), 7), ({}, []))
        self.assertEqual(everywhere((2, ((0, 1, 7, 1),)), 0), ({1: 0}, [((1,), 7)]))
        self.assertEqual(everywhere((2, ((0, 1, 0, 1),)), 0), ({1: 0}, []))
        self.assertEqual(everywhere((2, ((0, 1, 7, 1),)), 1), ({}, []))
        ahead, weights = everywhere(NET, 0)
        self.assertEqual(ahead, {1: 0, 2: 0, 3: 1, 4: 0})
        self.assertEqual(sorted(weights), WEIGHTS_OF_NET)

    def test_rings_that_are_cheaper_than_the_way_to_them(self):
        self.assertEqual(self.check(RINGS, 0), 12)
        self.assertEqual(everywhere(RINGS, 0)[0], {1: 0, 2: 1, 3: 1, 4: 3})
        # A ring within a ring, each cheap within and dear to enter.
        nest = (
            6,
            (
                (0, 1, 100, 1),
                (0, 5, 150, 1),
                (1, 2, 1, 1),
                (2, 1, 2, 1),
                (2, 3, 10, 1),
                (3, 4, 1, 1),
                (4, 1, 20, 1),
                (4, 3, 2, 1),
                (5, 4, 3, 1),
            ),
        )
        self.assertEqual(self.check(nest, 0), least_price_of_all(nest, 0))

    def test_a_place_that_cannot_be_reached_leads_to_others_for_less(self):
        net = (4, ((0, 1, 9, 1), (1, 2, 9, 1), (3, 1, 0, 1), (3, 2, 0, 1)))
        self.assertEqual(everywhere(net, 0)[0], {1: 0, 2: 1})
        self.assertEqual(self.check(net, 0), 18)
        self.assertEqual(self.check(net, 3), 0)
        self.assertEqual(self.check(net, 2), 0)

    def test_roads_to_the_root(self):
        net = (3, ((0, 1, 5, 1), (1, 0, 0, 1), (1, 2, 5, 1), (2, 0, 1, 1), (2, 1, 1, 1)))
        self.assertEqual(self.check(net, 0), 10)
        self.assertEqual(self.check(net, 1), 5)
        self.assertEqual(self.check(net, 2), 1)

    def test_all_nets_of_three_places_against_all_dicts(self):
        for net in small_nets(3, [(0, 1), (1, 1), (3, 2)]):
            for root in range(3):
                self.assertEqual(self.check(net, root), least_price_of_all(net, root), (net, root))

    def test_nets_of_one_to_five_places_against_all_dicts(self):
        for places in range(1, 6):
            for net in mixed_nets(110 + places, places, 60, 6, 3):
                root = places // 2
                self.assertEqual(self.check(net, root), least_price_of_all(net, root), (net, root))

    def test_nets_of_four_places_against_grown_trees(self):
        for net in mixed_nets(120, 4, 60, 3, 3):
            whole = [tree for tree in grown_trees(net, 0) if {0, *tree} == reached_from(net, 0)]
            self.assertEqual(self.check(net, 0), min(price_of(net, tree) for tree in whole))

    def test_nets_of_up_to_twelve_places_against_all_sets(self):
        for places in range(6, 13):
            for most in (2, 9, 1000):
                for net in mixed_nets(130 + places, places, 4 if places < 11 else 2, most, 3):
                    root = places - 1
                    held = sum(1 << place for place in reached_from(net, root))
                    self.assertEqual(self.check(net, root), least_set_prices(net, root)[held], (net, root))

    def test_the_greatest(self):
        chain = (12, tuple((place, place + 1, 1000, 1000) for place in range(11)))
        self.assertEqual(self.check(chain, 0), 11000)
        self.assertEqual(self.check(full_net(12, 0), 5), 0)
        self.assertEqual(self.check(full_net(12, 1000), 5), 11000)
        dice = random.Random(8)
        pairs = [(i, j) for i in range(12) for j in range(12) if i != j]
        for most in (0, 1, 5, 1000):
            net = (12, tuple((i, j, dice.randint(0, most), 1) for i, j in pairs))
            self.check(net, 11)


class AreWeightsTest(unittest.TestCase):
    def refute(self, net, root, weights):
        self.assertIs(are_weights(net, root, weights), False, weights)
        self.assertIs(shows_everywhere(net, root, weights, -(10**30)), False, weights)

    def test_such(self):
        for weights in [
            WEIGHTS_OF_NET,
            WEIGHTS_OF_NET[::-1],
            WEIGHTS_OF_NET[:2],
            [],
            [((1, 2), 1)],
            [((1, 2, 3, 4), 1), ((1,), 3)],
            [((1, 3), 4), ((2,), 1)],
            [((4,), 3)],
        ]:
            with self.subTest(weights):
                self.assertIs(are_weights(NET, 0, weights), True)
        self.assertIs(are_weights((1, ()), 0, []), True)

    def test_a_number_one_more(self):
        for at in range(4):
            more = list(WEIGHTS_OF_NET)
            more[at] = (more[at][0], more[at][1] + 1)
            self.refute(NET, 0, more)
        self.refute(NET, 0, [((1, 2), 2)])
        self.refute(NET, 0, [*WEIGHTS_OF_NET, ((1, 2, 3, 4), 1)])
        self.refute(NET, 0, [((1,), 10**30)])

    def test_a_number_nought_or_below(self):
        for weight in (0, -1, -(10**30)):
            self.refute(NET, 0, [((1,), weight)])
            self.refute(NET, 0, [*WEIGHTS_OF_NET, ((1, 2), weight)])

    def test_a_tuple_twice(self):
        self.assertIs(are_weights(NET, 0, [((1,), 2)]), True)
        self.refute(NET, 0, [((1,), 2), ((1,), 2)])
        self.refute(NET, 0, [((1,), 2), ((2,), 1), ((1,), 1)])

    def test_tuples_that_do_not_rise_or_are_empty(self):
        for places in [(2, 1), (1, 1), (1, 3, 2), (1, 2, 2), ()]:
            self.refute(NET, 0, [(places, 1)])

    def test_the_root_and_places_that_cannot_be_reached_or_are_not_there(self):
        for places in [(0,), (0, 1), (5,), (1, 5), (6,), (-1,), (-1, 1), (1, 10**30)]:
            self.refute(NET, 0, [(places, 1)])
        # From 5 all are reached.
        self.assertIs(are_weights(NET, 5, [((0,), 1), ((1,), 1)]), False)
        self.assertIs(are_weights(NET, 5, [((1,), 1), ((2,), 1)]), True)
        self.assertIs(are_weights(NET, 5, [((0, 1, 2, 3, 4), 1)]), True)

    def test_roads_from_places_that_cannot_be_reached_bear_all(self):
        net = (4, ((0, 1, 9, 1), (1, 2, 9, 1), (3, 1, 0, 1), (3, 2, 0, 1)))
        self.assertIs(are_weights(net, 0, [((1,), 9), ((2,), 9)]), True)
        self.assertIs(are_weights(net, 3, [((1,), 1)]), False)

    def test_roads_of_price_nought_bear_none(self):
        self.assertIs(are_weights(RINGS, 0, [((1, 2), 5)]), True)
        self.assertIs(are_weights(RINGS, 0, [((1, 2), 6)]), False)
        self.assertIs(are_weights(RINGS, 0, [((1,), 1)]), False)
        self.assertIs(are_weights(RINGS, 0, [((1, 2), 5), ((3, 4), 3), ((1, 2, 3, 4), 4)]), True)
        self.assertIs(are_weights(RINGS, 0, [((1, 2), 5), ((3, 4), 3), ((1, 2, 3, 4), 5)]), False)

    def test_other_kinds(self):
        for weights in [
            None,
            0,
            "",
            (),
            {},
            (((1,), 1),),
            [None],
            [1],
            [(1, 1)],
            [[(1,), 1]],
            [([1], 1)],
            [((1,),)],
            [((1,), 1, 1)],
            [((1,), True)],
            [((True,), 1)],
            [((1.0,), 1)],
            [((1,), 1.0)],
            [((1,), None)],
            [(([],), 1)],
            ["ab"],
        ]:
            with self.subTest(repr(weights)):
                self.refute(NET, 0, weights)

    def test_lists_of_one_and_two_against_the_words(self):
        places = [(), (1,), (2,), (1, 2), (2, 1), (0,), (1, 1), (3,)]
        entries = [(some, weight) for some in places for weight in range(-1, 4)]
        lists = [[], *([one] for one in entries), *(list(two) for two in itertools.product(entries[::2], entries))]
        held = 0
        for net in list(small_nets(3, [(0, 1), (2, 1)]))[::6]:
            for weights in lists:
                expected = weights_hold(net, 0, weights)
                self.assertIs(are_weights(net, 0, weights), expected, (net, weights))
                held += expected
        self.assertGreater(held, 100)

    def test_then_no_tree_of_all_is_cheaper(self):
        dice = random.Random(12)
        held = 0
        for net in mixed_nets(141, 5, 60, 8, 2):
            least = least_price_of_all(net, 0)
            others = [some for some in rising_tuples(reached_from(net, 0) - {0}) if some]
            for turn in range(12):
                picked = dice.sample(others, min(len(others), dice.randint(1, 4)))
                weights = [(some, dice.randint(1, 3)) for some in picked]
                if are_weights(net, 0, weights):
                    held += 1
                    self.assertLessEqual(sum(weight for some, weight in weights), least)
        self.assertGreater(held, 50)


class ShowsEverywhereTest(unittest.TestCase):
    def test_just_at_the_sum_and_one_more(self):
        for weights, total in [(WEIGHTS_OF_NET, 10), (WEIGHTS_OF_NET[:2], 5), ([], 0), ([((1, 2), 1)], 1)]:
            for number in (-(10**30), -1, total - 1, total):
                self.assertIs(shows_everywhere(NET, 0, weights, number), True)
            for number in (total + 1, total + 2, 10**30):
                self.assertIs(shows_everywhere(NET, 0, weights, number), False)

    def test_just_the_price_of_what_is_told(self):
        for net in mixed_nets(150, 6, 20, 9, 2):
            ahead, weights = everywhere(net, 3)
            self.assertIs(shows_everywhere(net, 3, weights, price(net, 3, ahead)), True)
            self.assertIs(shows_everywhere(net, 3, weights, price(net, 3, ahead) + 1), False)


class RefusalsTest(unittest.TestCase):
    def test_alone_and_two_at_once(self):
        check_refusals(self, everywhere, ["net", "place"])
        for weights in ([], WEIGHTS_OF_NET, [((0,), 0)], None):
            check_refusals(self, are_weights, ["net", "place", [weights]])
            check_refusals(self, shows_everywhere, ["net", "place", [weights], [3]])


class HandedInAndToldTest(unittest.TestCase):
    def test_what_is_handed_in_stays(self):
        for weights in (WEIGHTS_OF_NET, [((2, 1), 3), ((1,), 0)]):
            given = copy.deepcopy(weights)
            are_weights(NET, 0, given)
            shows_everywhere(NET, 0, given, 3)
            self.assertEqual(given, weights)

    def test_what_is_told_is_the_askers_own(self):
        for net in (NET, RINGS):
            first = everywhere(net, 0)
            expected = copy.deepcopy(first)
            first[0].clear()
            first[1].clear()
            self.assertEqual(everywhere(net, 0), expected)
