"""Point 26, with 2 for what is told and handed in."""

import copy
import itertools
import random
import unittest

from hearkenway.bargains import are_bargains, bargains, cheapest_within, way_for
from hearkenway.errors import NoNet, NoPlace, TooMany
from tests.oracles import betters, full_net, mixed_nets, pairs_lead_on, priced_walks, slow_bargains, small_nets
from tests.refusals import check_refusals
from tests.samples import NET

BARGAINS_OF_NET = {0: [(0, 0)], 1: [(4, 2)], 2: [(1, 3)], 3: [(6, 7)], 4: [(3, 18), (15, 17)]}
# From 0 to 3 dearer is earlier: by 1, by 2, and straight.
SHOP = (4, ((0, 1, 1, 9), (0, 2, 4, 4), (0, 3, 20, 2), (1, 3, 1, 9), (2, 3, 4, 4), (3, 0, 0, 1)))


def skipping_net(without=()):
    """Eight places in a row, with roads ahead over any places between but those left out.

    A way from 0 to 7 pays for each place that it skips and is late for each that it enters, so each is a bargain:
    64 ways, less those by roads that are left out.
    """
    weights = [0, 1, 2, 4, 8, 16, 32, 0]
    return (
        8,
        tuple(
            (i, j, sum(weights[i + 1 : j]), weights[j] or 1)
            for i, j in itertools.combinations(range(8), 2)
            if (i, j) not in without
        ),
    )


def dear_or_late(nets):
    """The same nets with each road the earlier the dearer it is, so that there are many bargains."""
    for places, roads in nets:
        yield (places, tuple((i, j, price, 20 - price) for i, j, price, late in roads))


WITH_64 = skipping_net()
WITH_61 = skipping_net([(0, 7), (0, 6), (1, 7)])
WITH_60 = skipping_net([(0, 7), (0, 6), (1, 7), (1, 6)])


class BargainsTest(unittest.TestCase):
    def test_by_hand(self):
        self.assertEqual(bargains(NET, 0), BARGAINS_OF_NET)
        self.assertEqual(bargains(NET, 4), {4: [(0, 0)]})
        self.assertEqual(bargains((1, ()), 0), {0: [(0, 0)]})
        self.assertEqual(bargains((12, ()), 7), {7: [(0, 0)]})
        self.assertEqual(bargains(SHOP, 0)[3], [(2, 18), (8, 8), (20, 2)])

    def test_as_cheap_but_later_and_as_early_but_dearer(self):
        net = (4, ((0, 1, 2, 5), (0, 2, 1, 2), (0, 3, 1, 3), (2, 1, 1, 2), (3, 1, 1, 2)))
        self.assertEqual(bargains(net, 0)[1], [(2, 4)])
        dearer = (4, ((0, 1, 5, 4), (0, 2, 1, 2), (2, 1, 1, 2)))
        self.assertEqual(bargains(dearer, 0)[1], [(2, 4)])

    def test_the_same_pair_by_two_ways_is_told_once(self):
        net = (4, ((0, 1, 1, 2), (0, 2, 1, 2), (1, 3, 3, 1), (2, 3, 3, 1)))
        self.assertEqual(bargains(net, 0)[3], [(4, 3)])
        self.assertIn(way_for(net, 0, 3, (4, 3)), [[0, 1, 3], [0, 2, 3]])

    def test_roads_of_price_nought_in_rings(self):
        net = (4, ((0, 1, 0, 1), (1, 0, 0, 1), (1, 2, 0, 1), (2, 1, 0, 1), (2, 3, 0, 1), (0, 3, 1, 1)))
        net = (4, tuple(sorted(net[1])))
        self.assertEqual(bargains(net, 0), {0: [(0, 0)], 1: [(0, 1)], 2: [(0, 2)], 3: [(0, 3), (1, 1)]})

    def test_the_greatest(self):
        net = (12, tuple((place, place + 1, 1000, 1000) for place in range(11)))
        self.assertEqual(bargains(net, 0)[11], [(11000, 11000)])
        self.assertEqual(way_for(net, 0, 11, (11000, 11000)), list(range(12)))

    def test_all_nets_of_three_places(self):
        for net in small_nets(3, [(0, 3), (1, 1), (2, 2)]):
            self.assertEqual(bargains(net, 0), slow_bargains(net, 0), net)

    def test_nets_of_two_to_seven_places(self):
        several = 0
        for places in range(2, 8):
            nets = list(mixed_nets(40 + places, places, 12, 19, 19))
            for net in [*nets, *dear_or_late(nets)]:
                root = places // 2
                told = bargains(net, root)
                self.assertEqual(told, slow_bargains(net, root), net)
                several += any(len(row) > 2 for row in told.values())
                for row in told.values():
                    self.assertIs(type(row), list)
                    self.assertTrue(all(type(pair) is tuple for pair in row))
                    self.assertTrue(all(a < c and b > d for (a, b), (c, d) in zip(row, row[1:])))
        self.assertGreater(several, 20)

    def test_sixty_are_told(self):
        told = bargains(WITH_60, 0)
        self.assertEqual(len(told[7]), 60)
        self.assertEqual(told, slow_bargains(WITH_60, 0))


class WayForTest(unittest.TestCase):
    def check_way(self, net, root, place, pair):
        way = way_for(net, root, place, pair)
        self.assertIs(type(way), list)
        self.assertEqual((way[0], way[-1]), (root, place))
        self.assertEqual(len(way), len(set(way)))
        roads = {(i, j): (price, late) for i, j, price, late in net[1]}
        gone = [roads[step] for step in zip(way, way[1:])]
        self.assertEqual((sum(price for price, late in gone), sum(late for price, late in gone)), pair)

    def test_by_hand(self):
        self.assertEqual(way_for(NET, 0, 4, (3, 18)), [0, 4])
        self.assertEqual(way_for(NET, 0, 4, (15, 17)), [0, 1, 3, 4])
        self.assertEqual(way_for(NET, 0, 0, (0, 0)), [0])
        self.assertEqual(way_for(SHOP, 0, 3, (8, 8)), [0, 2, 3])
        self.assertEqual(way_for((1, ()), 0, 0, (0, 0)), [0])

    def test_no_bargain(self):
        # (8, 7) is had by the way by 2, which the one by 1 betters; (6, 8) by going round to the root.
        for pair in [(8, 7), (6, 8), (7, 6)]:
            self.assertIsNone(way_for(NET, 0, 3, pair))
        for pair in [(18, 3), (4, 18), (-3, 18), (3, 17)]:
            self.assertIsNone(way_for(NET, 0, 4, pair))
        for pair in [(0, 0), (1, 1), (6, 8)]:
            self.assertIsNone(way_for(NET, 0, 5, pair))
        self.assertIsNone(way_for(NET, 0, 0, (6, 8)))
        self.assertIsNone(way_for(NET, 0, 4, (10**30, 10**30)))

    def test_the_bargain_of_another_place_or_root(self):
        self.assertIsNone(way_for(NET, 0, 1, (0, 0)))
        self.assertIsNone(way_for(NET, 0, 2, (4, 2)))
        self.assertIsNone(way_for(NET, 5, 1, (4, 2)))
        self.assertEqual(way_for(NET, 5, 1, (1, 1)), [5, 1])

    def test_what_is_no_pair_of_whole_numbers(self):
        for pair in [None, 0, (), (0,), (0, 0, 0), [0, 0], (False, 0), (0, False), (0.0, 0), "00"]:
            self.assertIsNone(way_for(NET, 0, 0, pair))

    def test_each_bargain_and_each_other_pair_nearby(self):
        for net in [SHOP, NET, *mixed_nets(51, 5, 10, 5, 5)]:
            for place in range(net[0]):
                row = slow_bargains(net, 0).get(place, [])
                for pair in itertools.product(range(-1, 22), range(-1, 22)):
                    if pair in row:
                        self.check_way(net, 0, place, pair)
                    else:
                        self.assertIsNone(way_for(net, 0, place, pair))

    def test_a_way_for_each_of_sixty(self):
        for pair in bargains(WITH_60, 0)[7]:
            self.check_way(WITH_60, 0, 7, pair)


class CheapestWithinTest(unittest.TestCase):
    def test_by_hand(self):
        for late, told in [
            (10**30, (3, [0, 4])),
            (18, (3, [0, 4])),
            (17, (15, [0, 1, 3, 4])),
            (16, None),
            (0, None),
            (-1, None),
        ]:
            self.assertEqual(cheapest_within(NET, 0, 4, late), told)
        for late, told in [(1, None), (2, (20, [0, 3])), (7, (20, [0, 3])), (8, (8, [0, 2, 3])), (18, (2, [0, 1, 3]))]:
            self.assertEqual(cheapest_within(SHOP, 0, 3, late), told)

    def test_the_root_itself(self):
        self.assertEqual(cheapest_within(NET, 0, 0, 0), (0, [0]))
        self.assertEqual(cheapest_within(NET, 0, 0, 99), (0, [0]))
        self.assertIsNone(cheapest_within(NET, 0, 0, -1))

    def test_what_cannot_be_reached(self):
        for late in (-1, 0, 1, 10**30):
            self.assertIsNone(cheapest_within(NET, 0, 5, late))

    def test_each_bargains_lateness_one_less_and_one_more(self):
        for net in [SHOP, NET, *dear_or_late(mixed_nets(52, 6, 12, 19, 9))]:
            walked = priced_walks(net, 0)
            for place, row in slow_bargains(net, 0).items():
                for late in {late + more for price, late in row for more in (-1, 0, 1)}:
                    within = [total for way, total, lates in walked if way[-1] == place and lates <= late]
                    told = cheapest_within(net, 0, place, late)
                    if not within:
                        self.assertIsNone(told)
                        continue
                    price, way = told
                    self.assertIs(type(told), tuple)
                    self.assertEqual(price, min(within))
                    had = [(total, lates) for gone, total, lates in walked if gone == way]
                    self.assertTrue(len(had) == 1 and had[0][0] == price and had[0][1] <= late)


class AreBargainsTest(unittest.TestCase):
    def test_told_ones(self):
        for net in [SHOP, NET, (1, ()), WITH_60, *mixed_nets(53, 7, 20, 9, 9)]:
            self.assertIs(are_bargains(net, 0, bargains(net, 0)), True)

    def test_lesser_pairs_and_more_of_them(self):
        lesser = {place: [(0, 0)] for place in range(6)}
        self.assertIs(are_bargains(NET, 0, lesser), True)
        self.assertIs(are_bargains(NET, 0, {**BARGAINS_OF_NET, 4: [(15, 17), (3, 18)]}), True)
        self.assertIs(are_bargains(NET, 0, {**BARGAINS_OF_NET, 4: [(2, 17)]}), True)
        self.assertIs(are_bargains(NET, 0, {**BARGAINS_OF_NET, 4: [(3, 18), (3, 18), (15, 17), (99, 99)]}), True)
        self.assertIs(are_bargains(NET, 0, {**BARGAINS_OF_NET, 0: [(7, 7), (0, 0)]}), True)

    def test_what_each_pair_leads_to_is_asked(self):
        # By the road to 3 the second pair of 1 leads to (5, 7), than which 3 has none no greater.
        self.assertIs(are_bargains(NET, 0, {**BARGAINS_OF_NET, 1: [(4, 2), (3, 2)]}), False)
        self.assertIs(are_bargains(NET, 0, {**BARGAINS_OF_NET, 1: [(3, 2), (4, 2)]}), False)
        self.assertIs(are_bargains(NET, 0, {**BARGAINS_OF_NET, 1: [(4, 2), (5, 2)]}), True)

    def test_places_that_cannot_be_reached(self):
        self.assertIs(are_bargains(NET, 0, {**BARGAINS_OF_NET, 5: []}), True)
        for pair in [(2, 2), (3, 0), (0, 0)]:
            self.assertIs(are_bargains(NET, 0, {**BARGAINS_OF_NET, 5: [pair]}), False)
        for pair in [(3, 1), (99, 99)]:
            self.assertIs(are_bargains(NET, 0, {**BARGAINS_OF_NET, 5: [pair]}), True)

    def test_one_pair_greater(self):
        for place, row in BARGAINS_OF_NET.items():
            for at, (price, late) in enumerate(row):
                for pair in [(price + 1, late), (price, late + 1)]:
                    moved = {**BARGAINS_OF_NET, place: [*row[:at], pair, *row[at + 1 :]]}
                    with self.subTest(moved):
                        self.assertIs(are_bargains(NET, 0, moved), False)

    def test_a_pair_or_a_place_left_out(self):
        for place, row in BARGAINS_OF_NET.items():
            left = {key: BARGAINS_OF_NET[key] for key in BARGAINS_OF_NET if key != place}
            self.assertIs(are_bargains(NET, 0, left), False)
            for pair in row:
                self.assertIs(are_bargains(NET, 0, {**left, place: [one for one in row if one != pair]}), False)
        self.assertIs(are_bargains(NET, 0, {}), False)
        self.assertIs(are_bargains((1, ()), 0, {}), False)
        self.assertIs(are_bargains((1, ()), 0, {0: []}), False)

    def test_no_greater_in_both_by_one_pair_and_not_by_two(self):
        net = (2, ((0, 1, 5, 5),))
        self.assertIs(are_bargains(net, 0, {0: [(0, 0)], 1: [(4, 6), (6, 4)]}), False)
        self.assertIs(are_bargains(net, 0, {0: [(0, 0)], 1: [(4, 6), (5, 5)]}), True)
        self.assertIs(are_bargains(net, 0, {0: [(0, 0)], 1: [(0, 5)]}), True)
        self.assertIs(are_bargains(net, 0, {0: [(0, 0)], 1: [(5, 0)]}), True)

    def test_the_roots_pair_is_just_noughts(self):
        net = (2, ((0, 1, 5, 5),))
        for row in [[], [(0, 1)], [(1, 0)]]:
            self.assertIs(are_bargains(net, 0, {0: row, 1: [(0, 0)]}), False)
        self.assertIs(are_bargains(net, 1, {0: [(0, 0)], 1: [(0, 0)]}), True)
        self.assertIs(are_bargains(net, 1, {0: [(0, 0)], 1: [(0, 1)]}), False)

    def test_numbers_below_nought_and_no_places(self):
        net = (2, ((0, 1, 5, 5),))
        good = {0: [(0, 0)], 1: [(5, 5)]}
        self.assertIs(are_bargains(net, 0, good), True)
        for pair in [(-1, 0), (0, -1), (-1, -1)]:
            self.assertIs(are_bargains(net, 0, {**good, 1: [(5, 5), pair]}), False)
            self.assertIs(are_bargains(net, 0, {**good, 1: [pair]}), False)
        for place in (-1, 2, 10**30):
            self.assertIs(are_bargains(net, 0, {**good, place: []}), False)
            self.assertIs(are_bargains(net, 0, {**good, place: [(0, 0)]}), False)

    def test_things_that_are_no_such_dicts(self):
        for thing in [
            None,
            0,
            [],
            [(0, 0)],
            {0: (0, 0)},
            {0: ((0, 0),)},
            {0: None},
            {0: [(0, 0), None]},
            {0: [(0, 0), (0,)]},
            {0: [(0, 0), (0, 0, 0)]},
            {0: [(0, 0), [0, 0]]},
            {0: [(0, 0), (True, 0)]},
            {0: [(0, False)]},
            {False: [(0, 0)]},
        ]:
            with self.subTest(repr(thing)):
                self.assertIs(are_bargains((1, ()), 0, thing), False)

    def test_not_refused_for_more_than_sixty(self):
        table = {place: [(0, 0)] for place in range(8)}
        self.assertIs(are_bargains(WITH_64, 0, table), True)
        self.assertIs(are_bargains(WITH_64, 0, slow_bargains(WITH_64, 0)), True)
        many = [(price, 100 - price) for price in range(100)]
        self.assertIs(are_bargains((2, ()), 0, {0: [(0, 0), *many], 1: many}), True)

    def test_by_the_words_of_the_document(self):
        dice = random.Random(12)
        held = 0
        for net in mixed_nets(54, 4, 60, 3, 3):
            right = slow_bargains(net, 0)
            for turn in range(30):
                table = copy.deepcopy(right)
                for change in range(dice.randint(0, 3)):
                    row = table.setdefault(dice.randrange(-1, 5) if not dice.randrange(9) else dice.randrange(4), [])
                    if row and dice.randrange(2):
                        row.pop(dice.randrange(len(row)))
                    if dice.randrange(3):
                        row.append((dice.randint(0, 4), dice.randint(0, 4)))
                expected = pairs_lead_on(net, 0, table)
                held += expected
                self.assertIs(are_bargains(net, 0, table), expected, (net, table))
        self.assertGreater(held, 200)
        self.assertGreater(60 * 30 - held, 200)

    def test_then_each_way_has_a_pair_no_greater(self):
        for net in mixed_nets(55, 5, 20, 5, 5):
            told = bargains(net, 0)
            for way, price, late in priced_walks(net, 0):
                row = told[way[-1]]
                self.assertTrue(any(pair == (price, late) or betters(pair, (price, late)) for pair in row))


class RefusalsTest(unittest.TestCase):
    def test_alone_and_two_at_once(self):
        check_refusals(self, bargains, ["net", "place"])
        for table in ({}, BARGAINS_OF_NET, None):
            check_refusals(self, are_bargains, ["net", "place", [table]])
        for pair in ((0, 0), (7, 7), None):
            check_refusals(self, way_for, ["net", "place", "place", [pair]])
        check_refusals(self, cheapest_within, ["net", "place", "place", [5]])

    def test_more_than_sixty(self):
        self.assertEqual(len(slow_bargains(WITH_61, 0)[7]), 61)
        for net in (WITH_61, WITH_64, skipping_net([(0, 7)])):
            self.assertRaises(TooMany, bargains, net, 0)
            # Also where the asked place itself has few.
            for place in range(8):
                self.assertRaises(TooMany, way_for, net, 0, place, (0, 0))
                self.assertRaises(TooMany, cheapest_within, net, 0, place, 5)
        # From another root there are fewer.
        self.assertEqual(bargains(WITH_64, 1), slow_bargains(WITH_64, 1))
        self.assertEqual(way_for(WITH_64, 1, 1, (0, 0)), [1])
        self.assertEqual(cheapest_within(WITH_64, 1, 1, 0), (0, [1]))

    def test_too_many_goes_behind_all_others(self):
        for root in (8, -1, True, None):
            self.assertRaises(NoPlace, bargains, WITH_64, root)
            self.assertRaises(NoPlace, way_for, WITH_64, root, 7, (0, 0))
            self.assertRaises(NoPlace, way_for, WITH_64, 0, root, (0, 0))
            self.assertRaises(NoPlace, cheapest_within, WITH_64, root, 7, 5)
            self.assertRaises(NoPlace, cheapest_within, WITH_64, 0, root, 5)
        amiss = (7, WITH_64[1])
        self.assertRaises(NoNet, bargains, amiss, 0)
        self.assertRaises(NoNet, way_for, amiss, 0, 9, (0, 0))
        self.assertRaises(NoNet, cheapest_within, amiss, 0, 9, 5)

    def test_a_full_net_with_very_many_is_refused_soon(self):
        weights = [2**place for place in range(10)]
        roads = []
        for i, j, price, late in full_net(12)[1]:
            skipped = sum(weights[i : j - 1]) if i < j else 1000
            roads.append((i, j, min(skipped, 1000), weights[j - 1] if i < j <= 10 else 1))
        self.assertRaises(TooMany, bargains, (12, tuple(roads)), 0)


class HandedInAndToldTest(unittest.TestCase):
    def test_what_is_handed_in_stays(self):
        for table in [BARGAINS_OF_NET, {}, {0: [(0, 0)]}, {0: [], 9: [(1, 1)]}]:
            given = copy.deepcopy(table)
            are_bargains(NET, 0, given)
            self.assertEqual(list(given.items()), list(table.items()))

    def test_what_is_told_is_the_askers_own(self):
        first = bargains(NET, 0)
        for row in first.values():
            row.clear()
        first.clear()
        self.assertEqual(bargains(NET, 0), BARGAINS_OF_NET)
        way_for(NET, 0, 4, (15, 17)).clear()
        self.assertEqual(way_for(NET, 0, 4, (15, 17)), [0, 1, 3, 4])
        cheapest_within(NET, 0, 4, 17)[1].clear()
        self.assertEqual(cheapest_within(NET, 0, 4, 17), (15, [0, 1, 3, 4]))
