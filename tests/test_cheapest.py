"""Points 9 and 10, with 2 for what is told and handed in."""

import copy
import itertools
import random
import unittest

from hearkenway.cheapest import cheapest, is_table, shows
from hearkenway.early import is_closed
from hearkenway.errors import NoNet, NoPlace, TooMany
from hearkenway.nets import is_tree, is_trim, price
from tests.oracles import (
    all_dicts,
    full_net,
    least_serving_price,
    least_set_prices,
    mixed_nets,
    price_of,
    reached_from,
    rising_tuples,
    serving,
    small_nets,
    some_hearers,
    table_holds,
    table_keys,
)
from tests.refusals import check_refusals
from tests.samples import NET

# From 0 each hearer alone is served for less by its own road; both together by 1, which is no hearer.
FORK = (4, ((0, 1, 3, 1), (0, 2, 4, 1), (0, 3, 4, 1), (1, 2, 2, 1), (1, 3, 2, 1)))
# All for nothing, in rings.
FREE = full_net(5, 0, 1)


class TreeTest(unittest.TestCase):
    def check(self, net, root, hearers, least):
        """least: the least price of a tree that serves the hearers, None where there is none."""
        told = cheapest(net, root, hearers)
        self.assertIs(type(told), tuple)
        if least is None:
            word, places = told
            self.assertEqual(word, "none")
            self.check_places(net, root, hearers, places)
            return
        word, ahead, table = told
        self.assertEqual(word, "tree")
        self.assertIs(is_trim(net, root, hearers, ahead), True, (net, root, hearers, ahead))
        self.assertEqual(price_of(net, ahead), least, (net, root, hearers, ahead))
        self.check_table(net, root, hearers, table, least)

    def check_places(self, net, root, hearers, places):
        self.assertIs(type(places), tuple)
        self.assertEqual(list(places), sorted(set(places)))
        self.assertIn(root, places)
        self.assertTrue(all(j in places for i, j, price, late in net[1] if i in places), (net, root, places))
        self.assertTrue(set(hearers) - set(places), (net, root, hearers, places))
        self.assertIs(is_closed(net, root, places), True)

    def check_table(self, net, root, hearers, table, least):
        self.assertEqual(set(table), set(table_keys(net, hearers)))
        self.assertTrue(all(number is None or type(number) is int for number in table.values()))
        self.assertTrue(table_holds(net, hearers, table), (net, hearers, table))
        self.assertEqual(table[hearers, root], least)
        self.assertIs(is_table(net, hearers, table), True)
        self.assertIs(shows(net, root, hearers, table, least), True)
        self.assertIs(shows(net, root, hearers, table, least + 1), False)

    def test_by_hand(self):
        self.assertEqual(cheapest(FORK, 0, (2,))[1], {2: 0})
        self.assertEqual(cheapest(FORK, 0, (3,))[1], {3: 0})
        self.assertEqual(cheapest(FORK, 0, (2, 3))[1], {1: 0, 2: 1, 3: 1})
        self.assertEqual(cheapest(NET, 0, (3, 4))[1], {1: 0, 3: 1, 4: 0})
        self.assertEqual(cheapest(NET, 5, (1, 3))[1], {1: 5, 3: 1})
        for net, root, hearers, least in [(FORK, 0, (2,), 4), (FORK, 0, (2, 3), 7), (NET, 0, (3, 4), 9)]:
            self.check(net, root, hearers, least)

    def test_the_root_among_the_hearers(self):
        self.assertEqual(cheapest((1, ()), 0, (0,)), ("tree", {}, {((0,), 0): 0}))
        self.assertEqual(cheapest(NET, 3, (3,))[1], {})
        self.assertEqual(cheapest(FORK, 0, (0, 2, 3))[1], {1: 0, 2: 1, 3: 1})
        self.check(FORK, 0, (0,), 0)
        self.check(FORK, 0, (0, 2, 3), 7)

    def test_the_table_of_one_road(self):
        table = {((1,), 0): 5, ((1,), 1): 0}
        self.assertEqual(cheapest((2, ((0, 1, 5, 9),)), 0, (1,)), ("tree", {1: 0}, table))

    def test_what_cannot_be_reached(self):
        self.assertEqual(cheapest((2, ()), 0, (1,)), ("none", (0,)))
        for root, hearers in [(0, (5,)), (0, (1, 5)), (3, (0, 5)), (4, (0,)), (4, (4, 5)), (1, (1, 2, 3, 4, 5))]:
            with self.subTest((root, hearers)):
                self.check(NET, root, hearers, None)

    def test_prices_and_not_lates_are_summed(self):
        net = (3, ((0, 1, 9, 1), (0, 2, 1, 500), (2, 1, 1, 500)))
        self.assertEqual(cheapest(net, 0, (1,))[1], {2: 0, 1: 2})

    def test_roads_of_price_nought_in_rings(self):
        for hearers in rising_tuples(range(5)):
            if hearers:
                self.check(FREE, 2, hearers, 0)

    def test_ways_for_nothing_that_cross(self):
        # To 2 there is a way by 3 and one by 0 and 1, and the hearers' ways come there by both.
        roads = [(0, 1), (0, 3), (0, 4), (1, 2), (1, 3), (1, 4), (2, 1), (2, 3), (3, 1), (3, 2), (3, 4), (3, 5)]
        roads += [(4, 0), (4, 1), (4, 2), (4, 3), (4, 5), (5, 0), (5, 3)]
        net = (6, tuple((i, j, 0, 1) for i, j in roads))
        for root, hearers in itertools.product(range(6), rising_tuples(range(6))):
            if hearers:
                self.check(net, root, hearers, 0)

    def test_nets_with_many_ways_for_nothing(self):
        dice = random.Random(14)
        for turn, (places, roads) in enumerate([net for n in (5, 6, 7) for net in mixed_nets(n, n, 120, 1, 1)]):
            net = (places, tuple((i, j, dice.choice((0, 0, 0, 0, 1, 2)), late) for i, j, price, late in roads))
            root = turn % places
            least = least_set_prices(net, root)
            for many in (3, 4, 5):
                hearers = some_hearers(turn * 9 + many, places, many)
                self.check(net, root, hearers, least_serving_price(least, hearers))

    def test_the_greatest_prices_through_all_twelve(self):
        net = (12, tuple((place, place + 1, 1000, 1000) for place in range(11)))
        self.check(net, 0, (1, 3, 5, 7, 9, 11), 11000)
        self.check(net, 0, (11,), 11000)
        self.check(full_net(12, 1000, 1), 11, (0, 1, 2, 3, 4, 5), 6000)

    def test_the_least_of_all_dicts_in_all_nets_of_three_places(self):
        for net in small_nets(3, [(1, 1), (3, 1)]):
            trees = [tree for tree in all_dicts((1, 2), (0, 1, 2)) if is_tree(net, 0, tree)]
            for hearers in [(0,), (1,), (2,), (0, 1), (1, 2), (0, 1, 2)]:
                prices = [price(net, 0, tree) for tree in trees if serving(0, hearers, tree)]
                self.check(net, 0, hearers, min(prices, default=None))

    def test_the_least_of_all_dicts_in_nets_of_four_and_five_places(self):
        for places, turns in [(4, 40), (5, 6)]:
            for net in mixed_nets(places, places, turns, 4, 3):
                others = tuple(range(1, places))
                trees = [tree for tree in all_dicts(others, range(places)) if is_tree(net, 0, tree)]
                for hearers in rising_tuples(range(places)):
                    if hearers:
                        prices = [price_of(net, tree) for tree in trees if serving(0, hearers, tree)]
                        self.check(net, 0, hearers, min(prices, default=None))

    def test_nets_of_one_to_twelve_places(self):
        for places in range(1, 13):
            for turn, net in enumerate(mixed_nets(100 + places, places, 12, (1, 3, 30, 1000)[places % 4], 9)):
                root = turn % places
                least = least_set_prices(net, root)
                for many in range(1, 7):
                    hearers = some_hearers(turn * 50 + many, places, many)
                    self.check(net, root, hearers, least_serving_price(least, hearers))

    def test_six_hearers_in_full_nets_of_twelve_places(self):
        for seed, most in enumerate((0, 1, 2, 5, 20, 1000)):
            dice = random.Random(seed)
            net = (12, tuple((i, j, dice.randint(0, most), late) for i, j, price, late in full_net(12)[1]))
            least = least_set_prices(net, 3)
            for hearers in [(0, 1, 2, 4, 5, 6), (3, 7, 8, 9, 10, 11), (0, 2, 4, 6, 8, 10)]:
                self.check(net, 3, hearers, least_serving_price(least, hearers))

    def test_just_those_that_can_be_reached_make_a_tree(self):
        for net in mixed_nets(77, 6, 30, 5, 5):
            reached = reached_from(net, 0)
            for place in range(6):
                self.assertEqual(cheapest(net, 0, (place,))[0], "tree" if place in reached else "none")


class TableTest(unittest.TestCase):
    def both(self, net, hearers, table, expected):
        """Hold the answer of is_table, and of shows, which asks the same first, against what is expected."""
        self.assertIs(is_table(net, hearers, table), expected, (net, hearers, table))
        self.assertIs(shows(net, hearers[0], hearers, table, -1), expected, (net, hearers, table))

    def tables(self):
        """Nets with hearers and the greatest table that holds."""
        for net, root, hearers in [
            (FORK, 0, (2, 3)),
            (FORK, 0, (1, 2, 3)),
            (NET, 0, (1, 3, 4)),
            (NET, 5, (0, 2, 3, 5)),
            (FREE, 0, (1, 2)),
            ((1, ()), 0, (0,)),
        ]:
            yield net, hearers, cheapest(net, root, hearers)[2]

    def test_tables_that_hold(self):
        for net, hearers, table in self.tables():
            self.both(net, hearers, table, True)
            self.both(net, hearers, {key: 0 for key in table}, True)
            # No greater than any one number is again a table that holds.
            for most in (1, 2, 3, 5, 8):
                lesser = {key: most if number is None else min(most, number) for key, number in table.items()}
                self.assertTrue(table_holds(net, hearers, lesser))
                self.both(net, hearers, lesser, True)

    def test_one_number_greater(self):
        for net, hearers, table in self.tables():
            for key, number in table.items():
                if number is not None:
                    self.both(net, hearers, {**table, key: number + 1}, False)

    def test_none_for_a_number_that_must_not_be_greater(self):
        for net, hearers, table in self.tables():
            for key, number in table.items():
                if number is not None:
                    self.both(net, hearers, {**table, key: None}, False)

    def test_none_where_nothing_is_reached(self):
        net = (2, ())
        self.both(net, (1,), {((1,), 0): None, ((1,), 1): 0}, True)
        self.both(net, (1,), {((1,), 0): 10**30, ((1,), 1): 0}, True)
        self.both(net, (1,), {((1,), 0): None, ((1,), 1): None}, False)
        nowhere = {((0,), 0): 0, ((0,), 1): None, ((1,), 0): None, ((1,), 1): 0, ((0, 1), 0): None, ((0, 1), 1): None}
        self.both(net, (0, 1), nowhere, True)
        self.assertEqual(cheapest((3, ((2, 0, 1, 1), (2, 1, 1, 1))), 2, (0, 1))[2][(0, 1), 0], None)

    def test_none_is_greater_than_a_number_and_a_road(self):
        net = (3, ((0, 1, 1, 1), (1, 2, 1, 1)))
        table = {((2,), 0): 2, ((2,), 1): 1, ((2,), 2): 0}
        self.both(net, (2,), table, True)
        self.both(net, (2,), {**table, ((2,), 0): None}, False)
        self.both(net, (2,), {**table, ((2,), 1): None}, False)
        self.both((3, ((0, 1, 1, 1),)), (2,), {((2,), 0): None, ((2,), 1): None, ((2,), 2): 0}, True)
        self.both((3, ((0, 1, 1, 1),)), (2,), {((2,), 0): 7, ((2,), 1): None, ((2,), 2): 0}, True)
        self.both((3, ((0, 1, 1, 1),)), (2,), {((2,), 0): None, ((2,), 1): 7, ((2,), 2): 0}, False)

    def test_parts_at_the_same_place(self):
        net = (3, ((0, 1, 4, 1), (0, 2, 5, 1)))
        table = cheapest(net, 0, (1, 2))[2]
        self.assertEqual(table[(1, 2), 0], 9)
        self.both(net, (1, 2), {**table, ((1, 2), 0): 10}, False)
        self.both(net, (1, 2), {**table, ((1, 2), 0): 8}, True)

    def test_each_way_to_part_six_hearers_counts(self):
        net, hearers = (7, ()), (0, 1, 2, 3, 4, 5)
        # At place 6, where no hearer is, all have as much; so only two parts with nothing undercut, and one doesn't.
        table = {(some, place): 10 if place == 6 else 0 for some, place in table_keys(net, hearers)}
        self.assertIs(is_table(net, hearers, table), True)
        for one in rising_tuples(hearers):
            other = tuple(place for place in hearers if place not in one)
            if one and other:
                self.assertIs(is_table(net, hearers, {**table, (one, 6): 0}), True, one)
                self.assertIs(is_table(net, hearers, {**table, (one, 6): 0, (other, 6): 0}), False, one)

    def test_a_key_left_out_or_more(self):
        for net, hearers, table in self.tables():
            for key in table:
                self.both(net, hearers, {other: table[other] for other in table if other != key}, False)
            places = net[0]
            outside = [((), 0), ((hearers[0],), places), ((hearers[0],), -1), ((places,), 0), ((-1,), 0)]
            outside += [(hearers + (places,), 0), ((hearers[-1], hearers[-1]), 0), ((hearers[0],) * 2, 0)]
            outside += [(tuple(reversed(hearers)), 0)] if len(hearers) > 1 else []
            for key, number in itertools.product(outside, (0, None)):
                self.both(net, hearers, {**table, key: number}, False)
            self.both(net, hearers, {}, False)

    def test_a_key_in_anothers_stead(self):
        table = {((1, 2), 0): 0, **{((place,), at): 0 for place in (1, 2) for at in range(3)}, ((1, 2), 1): 0}
        self.both((3, ()), (1, 2), {**table, ((1, 2), 2): 0}, True)
        self.both((3, ()), (1, 2), {**table, ((2, 1), 2): 0}, False)
        self.both((3, ()), (1, 2), {**table, ((1, 2), 3): 0}, False)
        self.both((3, ()), (1, 2), {**table, ((), 2): 0}, False)

    def test_the_table_of_other_hearers(self):
        table = cheapest(NET, 0, (1, 3))[2]
        self.both(NET, (1, 3), table, True)
        for hearers in [(1,), (3,), (1, 2), (1, 2, 3)]:
            self.both(NET, hearers, table, False)

    def test_a_number_below_nought(self):
        for net, hearers, table in self.tables():
            for key in table:
                self.both(net, hearers, {**table, key: -1}, False)
        self.both((2, ()), (1,), {((1,), 0): -1, ((1,), 1): 0}, False)
        self.both((2, ()), (1,), {((1,), 0): 0, ((1,), 1): 0}, True)

    def test_things_that_are_no_such_dicts(self):
        for table in [None, 0, [], (), "", [((0,), 0)], {((0,), 0): False}, {((False,), 0): 0}, {((0,), False): 0}]:
            self.both((1, ()), (0,), table, False)
        self.both((1, ()), (0,), {((0,), 0): 0}, True)

    def test_by_the_words_of_the_document(self):
        dice = random.Random(9)
        held = 0
        for net in mixed_nets(8, 4, 60, 3, 2):
            for turn in range(40):
                hearers = some_hearers(dice.random(), 4, 3)
                keys = table_keys(net, hearers)
                table = {key: dice.choice((0, 0, 1, 1, 2, 3, None)) for key in keys}
                table.update({((place,), place): 0 for place in hearers})
                for key in dice.sample(keys, dice.randint(0, len(keys))):
                    table[key] = 0
                expected = table_holds(net, hearers, table)
                held += expected
                self.assertIs(is_table(net, hearers, table), expected, (net, hearers, table))
        self.assertGreater(held, 200)
        self.assertGreater(60 * 40 - held, 200)

    def test_moved_numbers_of_told_tables(self):
        dice = random.Random(4)
        for net in mixed_nets(3, 5, 30, 6, 2):
            for root, hearers in [(0, (1, 4)), (2, (0, 2, 3))]:
                told = cheapest(net, root, hearers)
                table = told[2] if told[0] == "tree" else {key: 0 for key in table_keys(net, hearers)}
                for key in table:
                    for number in [dice.randint(0, 9), 0, None]:
                        moved = {**table, key: number}
                        self.assertIs(is_table(net, hearers, moved), table_holds(net, hearers, moved))


class ShowsTest(unittest.TestCase):
    def test_no_less_than_the_number(self):
        table = cheapest(FORK, 0, (2, 3))[2]
        for number, expected in [(-5, True), (0, True), (6, True), (7, True), (8, False), (10**30, False)]:
            self.assertIs(shows(FORK, 0, (2, 3), table, number), expected)

    def test_at_that_root_of_all_hearers(self):
        table = cheapest(FORK, 0, (2, 3))[2]
        self.assertEqual((table[(2, 3), 0], table[(2, 3), 1], table[(2,), 0]), (7, 4, 4))
        self.assertIs(shows(FORK, 1, (2, 3), table, 4), True)
        self.assertIs(shows(FORK, 1, (2, 3), table, 5), False)
        self.assertIs(shows(FORK, 0, (2, 3), table, 5), True)

    def test_none_is_no_less_than_any_number(self):
        table = cheapest(FORK, 0, (2, 3))[2]
        self.assertEqual(table[(2, 3), 2], None)
        for number in (0, 7, 10**30):
            self.assertIs(shows(FORK, 2, (2, 3), table, number), True)

    def test_a_lesser_table_shows_less(self):
        table = {key: 0 for key in table_keys(FORK, (2, 3))}
        self.assertIs(shows(FORK, 0, (2, 3), table, 0), True)
        self.assertIs(shows(FORK, 0, (2, 3), table, 1), False)
        one = {**table, ((2, 3), 0): 4, ((2,), 0): 4}
        self.assertIs(shows(FORK, 0, (2, 3), one, 4), table_holds(FORK, (2, 3), one))

    def test_a_table_that_does_not_hold_shows_nothing(self):
        table = cheapest(FORK, 0, (2, 3))[2]
        for amiss in [{**table, ((2, 3), 0): 8}, {**table, ((2,), 2): 1}, {}, {**table, ((2,), 9): 0}]:
            for number in (-1, 0, 7, 8):
                self.assertIs(shows(FORK, 0, (2, 3), amiss, number), False)

    def test_what_it_shows_is_so(self):
        for net in mixed_nets(21, 5, 40, 4, 2):
            for root, hearers in [(0, (1, 2)), (4, (0, 1, 3)), (1, (1, 4))]:
                least = least_serving_price(least_set_prices(net, root), hearers)
                told = cheapest(net, root, hearers)
                if least is not None:
                    self.assertIs(shows(net, root, hearers, told[2], least), True)
                    self.assertIs(shows(net, root, hearers, told[2], least + 1), False)


class RefusalsTest(unittest.TestCase):
    def test_alone_and_two_at_once(self):
        for table in ({}, cheapest(NET, 0, (1, 3))[2], None):
            check_refusals(self, is_table, ["net", "few", [table]])
            check_refusals(self, shows, ["net", "place", "few", [table], [0]])
        check_refusals(self, cheapest, ["net", "place", "few"])

    def test_too_many_hearers(self):
        seven, twelve = tuple(range(7)), tuple(range(12))
        for net, hearers in [(full_net(7), seven), (full_net(12), twelve), ((12, ()), twelve[5:])]:
            self.assertRaises(TooMany, cheapest, net, 0, hearers)
            for table in ({}, None, {((0,), 0): 0}):
                self.assertRaises(TooMany, is_table, net, hearers, table)
                self.assertRaises(TooMany, shows, net, 0, hearers, table, 0)
        self.assertEqual(cheapest(full_net(7), 6, seven[:6])[0], "tree")

    def test_too_many_goes_behind_all_others(self):
        seven = tuple(range(7))
        for net, root, hearers, error in [
            ((7, ((0, 0, 1, 1),)), 0, seven, NoNet),
            ((7, ((0, 0, 1, 1),)), 9, seven, NoNet),
            (full_net(7), 7, seven, NoPlace),
            (full_net(7), True, seven, NoPlace),
            (full_net(7), 0, (0, 1, 2, 3, 4, 6, 5), NoPlace),
            (full_net(7), 0, (*seven, 7), NoPlace),
            (full_net(7), 0, (*seven, 6), NoPlace),
            (full_net(7), 9, (), NoPlace),
        ]:
            self.assertRaises(error, cheapest, net, root, hearers)
            self.assertRaises(error, shows, net, root, hearers, {}, 0)
            if root == 0:
                self.assertRaises(error, is_table, net, hearers, {})


class HandedInAndToldTest(unittest.TestCase):
    def test_what_is_handed_in_stays(self):
        for table in [cheapest(FORK, 0, (2, 3))[2], {}, {((2,), 2): 1}]:
            given = copy.deepcopy(table)
            is_table(FORK, (2, 3), given)
            shows(FORK, 0, (2, 3), given, 7)
            self.assertEqual(list(given.items()), list(table.items()))

    def test_what_is_told_is_the_askers_own(self):
        for net, root, hearers in [(FORK, 0, (2, 3)), ((1, ()), 0, (0,)), (NET, 0, (0, 3, 4))]:
            first = cheapest(net, root, hearers)
            expected = copy.deepcopy(first)
            first[1][77] = 1
            first[1].pop(next(iter(first[1])))
            for key in list(first[2]):
                first[2][key] = 99
            first[2].clear()
            self.assertEqual(cheapest(net, root, hearers), expected)
