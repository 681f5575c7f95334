"""Slow answers by the bare words of the document, made another way than the program's, to hold beside its own."""

import itertools


def small_nets(places, choices):
    """All nets of so many places in which each road is missing or has one of the choices (price, late)."""
    pairs = [(i, j) for i in range(places) for j in range(places) if i != j]
    for picked in itertools.product([None, *choices], repeat=len(pairs)):
        yield (places, tuple((i, j, *pick) for (i, j), pick in zip(pairs, picked) if pick))


def full_net(places, price=1, late=1):
    return (places, tuple((i, j, price, late) for i in range(places) for j in range(places) if i != j))


def grown_trees(net, root):
    """All trees from the root, grown road by road from the empty one."""
    trees = [{}]
    for tree in trees:
        for i, j, price, late in net[1]:
            if (i == root or i in tree) and j != root and j not in tree:
                grown = {**tree, j: i}
                if grown not in trees:
                    trees.append(grown)
    return trees


def walks(net, root):
    """All ways from the root that enter no place twice, with their latenesses."""
    found = [([root], 0)]
    for way, total in found:
        for i, j, price, late in net[1]:
            if i == way[-1] and j not in way:
                found.append(([*way, j], total + late))
    return found


def least_latenesses(net, root):
    least = {}
    for way, total in walks(net, root):
        least[way[-1]] = min(total, least.get(way[-1], total))
    return least


def serving(root, hearers, tree):
    return set(hearers) <= {root, *tree}


def smaller_dicts(tree):
    """All dicts of some but not all of a dict's items."""
    items = list(tree.items())
    for many in range(len(items)):
        for some in itertools.combinations(items, many):
            yield dict(some)


def rising_tuples(numbers):
    """All rising tuples of some of the numbers, the empty one too."""
    for many in range(len(numbers) + 1):
        yield from itertools.combinations(sorted(numbers), many)


def all_dicts(keys, values):
    """All dicts from some of the keys to values."""
    for picked in itertools.product([None, *values], repeat=len(keys)):
        yield {key: value for key, value in zip(keys, picked) if value is not None}
