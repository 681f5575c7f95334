"""Slow answers by the bare words of the document, made another way than the program's, to hold beside its own."""

import itertools
import random


def small_nets(places, choices):
    """All nets of so many places in which each road is missing or has one of the choices (price, late)."""
    pairs = [(i, j) for i in range(places) for j in range(places) if i != j]
    for picked in itertools.product([None, *choices], repeat=len(pairs)):
        yield (places, tuple((i, j, *pick) for (i, j), pick in zip(pairs, picked) if pick))


def full_net(places, price=1, late=1):
    return (places, tuple((i, j, price, late) for i in range(places) for j in range(places) if i != j))


def grown_trees(net, root):
    """All trees from the root, grown road by road from the empty one."""
    trees = [{}]
    for tree in trees:
        for i, j, price, late in net[1]:
            if (i == root or i in tree) and j != root and j not in tree:
                grown = {**tree, j: i}
                if grown not in trees:
                    trees.append(grown)
    return trees


def walks(net, root):
    """All ways from the root that enter no place twice, with their latenesses."""
    found = [([root], 0)]
    for way, total in found:
        for i, j, price, late in net[1]:
            if i == way[-1] and j not in way:
                found.append(([*way, j], total + late))
    return found


def least_latenesses(net, root):
    least = {}
    for way, total in walks(net, root):
        least[way[-1]] = min(total, least.get(way[-1], total))
    return least


def serving(root, hearers, tree):
    return set(hearers) <= {root, *tree}


def smaller_dicts(tree):
    """All dicts of some but not all of a dict's items."""
    items = list(tree.items())
    for many in range(len(items)):
        for some in itertools.combinations(items, many):
            yield dict(some)


def rising_tuples(numbers):
    """All rising tuples of some of the numbers, the empty one too."""
    for many in range(len(numbers) + 1):
        yield from itertools.combinations(sorted(numbers), many)


def all_dicts(keys, values):
    """All dicts from some of the keys to values."""
    for picked in itertools.product([None, *values], repeat=len(keys)):
        yield {key: value for key, value in zip(keys, picked) if value is not None}


def mixed_nets(seed, places, turns, most_price, most_late):
    """Nets of so many places, some with few roads and some with many, always the same for one seed."""
    dice = random.Random(seed)
    for turn in range(turns):
        share = dice.choice((20, 40, 70, 100))
        yield (
            places,
            tuple(
                (i, j, dice.randint(0, most_price), dice.randint(1, most_late))
                for i in range(places)
                for j in range(places)
                if i != j and dice.randrange(100) < share
            ),
        )


def some_hearers(seed, places, most):
    """A rising tuple of one to so many places, always the same for one seed."""
    dice = random.Random(seed)
    return tuple(sorted(dice.sample(range(places), dice.randint(1, min(most, places)))))


def reached_from(net, root):
    reached = {root}
    for turn in range(net[0]):
        reached |= {j for i, j, price, late in net[1] if i in reached}
    return reached


def price_of(net, tree):
    return sum(price for i, j, price, late in net[1] if tree.get(j) == i)


def lates_of(net, root, tree):
    """The lateness of each place in a tree, going ahead from it."""
    lates = {(i, j): late for i, j, price, late in net[1]}
    told = {}
    for place in (root, *tree):
        told[place], at = 0, place
        while at != root:
            told[place] += lates[tree[at], at]
            at = tree[at]
    return told


def least_set_prices(net, root):
    """For each set of places that a tree from the root may have, as bits, the least price of such a tree.

    Each tree is grown road by road, so each set comes from a set with one place less.
    """
    least = {1 << root: 0}
    for size in range(1, net[0]):
        for held in [held for held in least if held.bit_count() == size]:
            for i, j, price, late in net[1]:
                if held >> i & 1 and not held >> j & 1:
                    grown = held | 1 << j
                    least[grown] = min(least[held] + price, least.get(grown, least[held] + price))
    return least


def least_serving_price(least, hearers):
    """Of what least_set_prices tells: the least price of trees that serve the hearers, or None."""
    wanted = sum(1 << place for place in hearers)
    return min((price for held, price in least.items() if held & wanted == wanted), default=None)


def table_keys(net, hearers):
    return [(some, place) for some in rising_tuples(hearers) if some for place in range(net[0])]


def table_holds(net, hearers, table):
    """Whether a dict is a table that holds, by the words of point 10, each part with each other one."""
    if set(table) != set(table_keys(net, hearers)):
        return False
    if any(number is not None and number < 0 for number in table.values()):
        return False
    great = {key: float("inf") if number is None else number for key, number in table.items()}
    if any(great[(hearer,), hearer] != 0 for hearer in hearers):
        return False
    parts = [some for some in rising_tuples(hearers) if some]
    for some in parts:
        if any(great[some, i] > great[some, j] + price for i, j, price, late in net[1]):
            return False
    for one, other in itertools.product(parts, parts):
        if not set(one) & set(other):
            both = tuple(sorted(one + other))
            if any(great[both, at] > great[one, at] + great[other, at] for at in range(net[0])):
                return False
    return True


def priced_walks(net, root):
    """All ways from the root that enter no place twice, as (way, price, late)."""
    found = [([root], 0, 0)]
    for way, total, lates in found:
        for i, j, price, late in net[1]:
            if i == way[-1] and j not in way:
                found.append(([*way, j], total + price, lates + late))
    return found


def slow_bargains(net, root):
    """From each place to its bargains, each way held against each other one."""
    pairs = {}
    for way, price, late in priced_walks(net, root):
        pairs.setdefault(way[-1], set()).add((price, late))
    return {
        place: sorted(pair for pair in some if not any(betters(other, pair) for other in some))
        for place, some in pairs.items()
    }


def betters(one, other):
    return one[0] <= other[0] and one[1] <= other[1] and one != other


def pairs_lead_on(net, root, table):
    """Whether a dict from whole numbers to lists of pairs is such as point 26 tells."""
    if any(place not in range(net[0]) for place in table):
        return False
    if any(number < 0 for row in table.values() for pair in row for number in pair):
        return False
    if (0, 0) not in table.get(root, []):
        return False
    for i, j, price, late in net[1]:
        for pair in table.get(i, []):
            on = (pair[0] + price, pair[1] + late)
            if j not in table or not any(low == on or betters(low, on) for low in table[j]):
                return False
    return True


def ways_out(net, inside, place):
    """The prices of all ways to a place from one inside, through places that aren't."""
    found = [([start], 0) for start in sorted(inside)]
    for way, total in found:
        for i, j, price, late in net[1]:
            if i == way[-1] and j not in way and j not in inside:
                found.append(([*way, j], total + price))
    return {tuple(way): total for way, total in found if way[-1] == place}


def prices_hold(net, root, tree, numbers):
    """Whether a dict from whole numbers to whole numbers is such as point 13 tells."""
    if any(place not in range(net[0]) or number < 0 for place, number in numbers.items()):
        return False
    if any(numbers.get(place) != 0 for place in (root, *tree)):
        return False
    for i, j, price, late in net[1]:
        if i in numbers and (j not in numbers or numbers[j] > numbers[i] + price):
            return False
    return True


def least_price_of_all(net, root):
    """The least price of trees of just the places that can be reached, over all dicts of places ahead."""
    reached = reached_from(net, root)
    others = sorted(reached - {root})
    prices = []
    for picked in itertools.product(sorted(reached), repeat=len(others)):
        tree = dict(zip(others, picked))
        if leads_home(net, root, tree):
            prices.append(price_of(net, tree))
    return min(prices)


def leads_home(net, root, tree):
    """Whether from each key, going ahead by roads, one comes to the root."""
    roads = {(i, j) for i, j, price, late in net[1]}
    if any((i, j) not in roads for j, i in tree.items()):
        return False
    for place in tree:
        gone = []
        while place != root:
            if place in gone or place not in tree:
                return False
            gone.append(place)
            place = tree[place]
    return True


def weights_hold(net, root, weights):
    """Whether a list of tuples (tuple of whole numbers, whole number) is such as point 27 tells."""
    reached = reached_from(net, root)
    for places, weight in weights:
        if list(places) != sorted(set(places)) or not places or not set(places) <= reached - {root} or weight < 1:
            return False
    tuples = [places for places, weight in weights]
    if any(tuples.count(places) > 1 for places in tuples):
        return False
    for i, j, price, late in net[1]:
        if {i, j} <= reached and sum(w for places, w in weights if j in places and i not in places) > price:
            return False
    return True


def keeping(kept, number):
    return {place for place in kept if number in kept[place]}


def lacking(kept, wants, number):
    return {place for place in wants if number in wants[place] and number not in kept[place]}


def standing_net(net, kept):
    """The same net without the roads from or to fallen places."""
    return (net[0], tuple(road for road in net[1] if road[0] in kept and road[1] in kept))


def sends_by_words(net, kept, wants, number, ahead):
    """Whether a dict from whole numbers to whole numbers is a send as point 22 tells, but for the least price."""
    keepers, lackers = keeping(kept, number), lacking(kept, wants, number)
    roads = {(i, j) for i, j, price, late in net[1] if i in kept and j in kept}
    if set(ahead) & keepers or not lackers <= set(ahead):
        return False
    if any((i, j) not in roads for j, i in ahead.items()):
        return False
    if any(place not in lackers and place not in ahead.values() for place in ahead):
        return False
    for place in ahead:
        gone = []
        while place not in keepers:
            if place in gone or place not in ahead:
                return False
            gone.append(place)
            place = ahead[place]
    return True


def least_send_price(net, kept, wants, number):
    """The least price of all sends of a number, over all dicts of places ahead, or None where there is none."""
    places = sorted(set(kept) - keeping(kept, number))
    prices = [
        price_of(net, ahead)
        for ahead in all_dicts(places, sorted(kept))
        if sends_by_words(net, kept, wants, number, ahead)
    ]
    return min(prices, default=None)


def least_send_price_by_sets(net, kept, wants, number):
    """The same for larger nets, by the sets of places that trees from one place more may have."""
    many, roads = standing_net(net, kept)
    more = tuple((many, place, 0, 1) for place in sorted(keeping(kept, number)))
    return least_serving_price(least_set_prices((many + 1, roads + more), many), lacking(kept, wants, number))
