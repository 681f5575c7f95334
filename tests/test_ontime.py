"""Points 11 and 12, with 2 for what is told and handed in."""

import copy
import itertools
import unittest

from hearkenway.cheapest import cheapest, is_table, shows
from hearkenway.errors import NoNet, NoPlace, TooMany
from hearkenway.nets import is_net, is_tree, is_trim
from hearkenway.ontime import cheapest_on_time, is_on_time, on_time
from tests.oracles import (
    all_dicts,
    full_net,
    grown_trees,
    lates_of,
    least_latenesses,
    least_serving_price,
    least_set_prices,
    mixed_nets,
    price_of,
    rising_tuples,
    serving,
    small_nets,
    some_hearers,
    table_holds,
    table_keys,
)
from tests.refusals import check_refusals
from tests.samples import NET, NO_DICTS, NO_TREES_OF_NET


def roads_on_time(net, root):
    least = least_latenesses(net, root)
    return tuple(
        (i, j, price, late)
        for i, j, price, late in net[1]
        if i in least and j in least and least[i] + late == least[j]
    )


def served_on_time(net, root, hearers, tree):
    if not serving(root, hearers, tree):
        return False
    told, least = lates_of(net, root, tree), least_latenesses(net, root)
    return all(told[place] == least[place] for place in hearers)


class OnTimeTest(unittest.TestCase):
    def test_by_hand(self):
        kept = ((0, 1, 4, 2), (0, 2, 1, 3), (1, 3, 2, 5), (2, 3, 7, 4), (3, 4, 9, 10))
        self.assertEqual(on_time(NET, 0), (6, kept))
        self.assertEqual(on_time(NET, 4), (6, ()))
        self.assertEqual(on_time((1, ()), 0), (1, ()))
        self.assertEqual(on_time((12, ()), 7), (12, ()))
        self.assertEqual(on_time(full_net(12), 5), (12, tuple((5, j, 1, 1) for j in range(12) if j != 5)))

    def test_just_the_roads_on_time(self):
        nets = [*small_nets(3, [(1, 1), (2, 2)]), *mixed_nets(31, 6, 40, 9, 4)]
        for net in nets:
            for root in range(net[0]):
                told = on_time(net, root)
                self.assertEqual(told, (net[0], roads_on_time(net, root)), (net, root))
                self.assertIs(is_net(told), True)

    def test_all_ways_by_them_are_earliest_ones(self):
        for net in mixed_nets(32, 6, 20, 9, 3):
            told = on_time(net, 0)
            least = least_latenesses(net, 0)
            self.assertEqual(least_latenesses(told, 0), least)
            for tree in grown_trees(told, 0)[:200]:
                self.assertEqual(lates_of(told, 0, tree), {place: least[place] for place in (0, *tree)})


class IsOnTimeTest(unittest.TestCase):
    def test_trees_on_time(self):
        for hearers, ahead in [
            ((), {}),
            ((0,), {}),
            ((1,), {1: 0}),
            ((3,), {1: 0, 3: 1}),
            ((3,), {2: 0, 3: 2}),
            ((0, 1, 2, 3, 4), {1: 0, 2: 0, 3: 2, 4: 3}),
            # 4 is late here, but is no hearer.
            ((1, 2), {1: 0, 2: 0, 4: 0}),
            ((), {4: 0}),
        ]:
            with self.subTest((hearers, ahead)):
                self.assertIs(is_on_time(NET, 0, hearers, ahead), True)

    def test_trees_that_are_late_or_do_not_serve(self):
        for hearers, ahead in [
            ((4,), {4: 0}),
            ((1, 4), {1: 0, 4: 0}),
            ((0, 1, 2, 3, 4), {1: 0, 2: 0, 3: 2, 4: 0}),
            ((1,), {}),
            ((1, 2), {1: 0}),
            ((5,), {1: 0}),
            ((0, 5), {}),
        ]:
            with self.subTest((hearers, ahead)):
                self.assertIs(is_tree(NET, 0, ahead), True)
                self.assertIs(is_on_time(NET, 0, hearers, ahead), False)

    def test_what_is_no_tree(self):
        for ahead in NO_TREES_OF_NET + NO_DICTS:
            for hearers in [(), (0,), (1,)]:
                with self.subTest((hearers, repr(ahead))):
                    self.assertIs(is_on_time(NET, 0, hearers, ahead), False)
        self.assertIs(is_on_time(full_net(4), 0, (), {1: 2, 2: 1}), False)

    def test_hearers_of_any_number(self):
        everybody = tuple(range(12))
        net = full_net(12)
        ahead = {place: 5 for place in everybody if place != 5}
        self.assertIs(is_on_time(net, 5, everybody, ahead), True)
        self.assertIs(is_on_time(net, 5, everybody, {**ahead, 3: 4}), False)
        self.assertIs(is_on_time(net, 5, everybody[4:], {**ahead, 3: 4}), True)

    def test_all_dicts_in_all_nets_of_three_places(self):
        dicts = list(all_dicts((0, 1, 2), (0, 1, 2)))
        for net in small_nets(3, [(1, 1), (1, 2)]):
            trees = grown_trees(net, 0)
            for ahead, hearers in itertools.product(dicts, [(), (0,), (1,), (1, 2), (0, 2)]):
                expected = ahead in trees and served_on_time(net, 0, hearers, ahead)
                self.assertIs(is_on_time(net, 0, hearers, ahead), expected, (net, hearers, ahead))

    def test_just_where_all_roads_to_hearers_are_on_time(self):
        for net in mixed_nets(33, 4, 25, 2, 3):
            kept = [(i, j) for i, j, price, late in roads_on_time(net, 0)]
            for tree, hearers in itertools.product(grown_trees(net, 0), rising_tuples(range(4))):
                if is_trim(net, 0, hearers, tree):
                    expected = all((start, end) in kept for end, start in tree.items())
                    self.assertIs(is_on_time(net, 0, hearers, tree), expected, (net, hearers, tree))


class CheapestOnTimeTest(unittest.TestCase):
    def check(self, net, root, hearers, least):
        """least: the least price of a tree that serves the hearers on time, None where there is none."""
        told = cheapest_on_time(net, root, hearers)
        self.assertIs(type(told), tuple)
        early = least_latenesses(net, root)
        if least is None:
            word, places = told
            self.assertEqual(word, "none")
            self.assertIs(type(places), tuple)
            self.assertEqual(list(places), sorted(set(places)))
            self.assertIn(root, places)
            # Of the whole net no road leads out, not only of the roads on time.
            self.assertTrue(all(j in places for i, j, price, late in net[1] if i in places), (net, root, places))
            self.assertTrue(set(hearers) - set(places))
            return
        word, ahead, table = told
        self.assertEqual(word, "tree")
        self.assertIs(is_trim(net, root, hearers, ahead), True, (net, root, hearers, ahead))
        lates = lates_of(net, root, ahead)
        self.assertEqual({place: lates[place] for place in hearers}, {place: early[place] for place in hearers})
        self.assertIs(is_on_time(net, root, hearers, ahead), True)
        self.assertEqual(price_of(net, ahead), least, (net, root, hearers, ahead))
        self.check_table(net, root, hearers, table, least)
        self.assertGreaterEqual(least, price_of(net, cheapest(net, root, hearers)[1]))

    def check_table(self, net, root, hearers, table, least):
        kept = (net[0], roads_on_time(net, root))
        self.assertEqual(set(table), set(table_keys(net, hearers)))
        self.assertTrue(table_holds(kept, hearers, table), (net, root, hearers, table))
        self.assertEqual(table[hearers, root], least)
        self.assertIs(is_table(kept, hearers, table), True)
        self.assertIs(shows(kept, root, hearers, table, least), True)
        self.assertIs(shows(kept, root, hearers, table, least + 1), False)

    def test_by_hand(self):
        self.assertEqual(cheapest_on_time(NET, 0, (4,))[1], {1: 0, 3: 1, 4: 3})
        self.assertEqual(cheapest_on_time(NET, 0, (3,))[1], {1: 0, 3: 1})
        self.assertEqual(cheapest_on_time(NET, 0, (0,))[1], {})
        self.check(NET, 0, (4,), 15)
        self.check(NET, 0, (2, 4), 16)
        self.check(NET, 0, (0, 3), 6)
        self.check((1, ()), 0, (0,), 0)

    def test_the_table_is_that_of_the_roads_on_time(self):
        net = (3, ((0, 1, 9, 1), (0, 2, 1, 1), (2, 1, 1, 1)))
        table = {((1,), 0): 9, ((1,), 1): 0, ((1,), 2): None}
        self.assertEqual(cheapest_on_time(net, 0, (1,)), ("tree", {1: 0}, table))
        self.assertEqual(cheapest(net, 0, (1,))[1], {1: 2, 2: 0})

    def test_what_cannot_be_reached(self):
        self.assertEqual(cheapest_on_time((2, ()), 0, (1,)), ("none", (0,)))
        for root, hearers in [(0, (5,)), (0, (4, 5)), (3, (0, 5)), (4, (0,)), (4, (4, 5))]:
            self.check(NET, root, hearers, None)

    def test_the_least_of_all_trees_on_time_in_small_nets(self):
        nets = [*small_nets(3, [(1, 2), (3, 1)]), *mixed_nets(34, 4, 40, 4, 3), *mixed_nets(35, 5, 5, 4, 2)]
        for net in nets:
            trees = grown_trees(net, 0)
            for hearers in rising_tuples(range(net[0])):
                if hearers:
                    prices = [price_of(net, tree) for tree in trees if served_on_time(net, 0, hearers, tree)]
                    self.check(net, 0, hearers, min(prices, default=None))

    def test_nets_of_one_to_twelve_places(self):
        for places in range(1, 13):
            for turn, net in enumerate(mixed_nets(200 + places, places, 8, (2, 9, 1000)[places % 3], 3)):
                root = turn % places
                # The lates are the least by the roads on time, whatever way is taken.
                least = least_set_prices((places, on_time(net, root)[1]), root)
                for many in (1, 2, 4, 6):
                    hearers = some_hearers(turn * 60 + many, places, many)
                    if places < 7:
                        self.check(net, root, hearers, least_serving_price(least, hearers))
                    else:
                        self.check_quick(net, root, hearers, least_serving_price(least, hearers))

    def check_quick(self, net, root, hearers, least):
        """As check, for nets of too many ways to walk them all."""
        told = cheapest_on_time(net, root, hearers)
        if least is None:
            self.assertEqual(told[0], "none")
            return
        self.assertIs(is_trim(net, root, hearers, told[1]), True)
        self.assertIs(is_on_time(net, root, hearers, told[1]), True)
        self.assertEqual(price_of(net, told[1]), least)
        self.assertEqual(told[2][hearers, root], least)
        self.assertTrue(table_holds(on_time(net, root), hearers, told[2]))


class RefusalsTest(unittest.TestCase):
    def test_alone_and_two_at_once(self):
        check_refusals(self, on_time, ["net", "place"])
        for ahead in [{}, {1: 0, 3: 1}, {9: 9}, None]:
            check_refusals(self, is_on_time, ["net", "place", "hearers", [ahead]])
        check_refusals(self, cheapest_on_time, ["net", "place", "few"])

    def test_too_many_hearers(self):
        seven = tuple(range(7))
        self.assertRaises(TooMany, cheapest_on_time, full_net(7), 0, seven)
        self.assertRaises(TooMany, cheapest_on_time, (12, ()), 11, tuple(range(12)))
        self.assertEqual(cheapest_on_time(full_net(7), 0, seven[1:])[0], "tree")
        self.assertRaises(NoNet, cheapest_on_time, (7, ((0, 0, 1, 1),)), 0, seven)
        self.assertRaises(NoPlace, cheapest_on_time, full_net(7), 7, seven)
        self.assertRaises(NoPlace, cheapest_on_time, full_net(7), 0, (*seven, 7))
        self.assertRaises(NoPlace, cheapest_on_time, full_net(7), 0, seven[::-1])
        self.assertIs(is_on_time(full_net(7), 0, seven, {}), False)


class HandedInAndToldTest(unittest.TestCase):
    def test_what_is_handed_in_stays(self):
        for ahead in [{1: 0, 3: 1}, {}, *NO_TREES_OF_NET]:
            given = copy.deepcopy(ahead)
            is_on_time(NET, 0, (3,), given)
            self.assertEqual(list(given.items()), list(ahead.items()))

    def test_what_is_told_is_the_askers_own(self):
        first = cheapest_on_time(NET, 0, (3, 4))
        expected = copy.deepcopy(first)
        first[1].clear()
        first[2].clear()
        self.assertEqual(cheapest_on_time(NET, 0, (3, 4)), expected)
        net = on_time(NET, 0)
        self.assertTrue(all(told is not road for told, road in itertools.product(net[1], NET[1])))
