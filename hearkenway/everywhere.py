"""Cheapest trees of all places that can be reached, and the weights that show that no tree is cheaper."""

from hearkenway.early import earliest
from hearkenway.kinds import is_whole, rises


def everywhere(net, root):
    """(ahead, weights): a cheapest tree of all places that can be reached, and weights whose sum is its price."""
    reached = earliest(net, root)
    left = {(start, end): cost for start, end, cost, late in roads_between(net, reached)}
    taken = []
    weights = []
    places = shut_out(reached, root, taken)
    while places:
        road = cheapest_into(left, places)
        if left[road] > 0:
            weights.append((places, left[road]))
            left = lessened(left, places, left[road])
        taken.append(road)
        places = shut_out(reached, root, taken)
    return (tree_of(reached, root, taken), weights)


def roads_between(net, reached):
    # Where a road begins at a place that can be reached, its end can be reached, too.
    return [road for road in net[1] if road[0] in reached]


def leads_into(start, end, places):
    return end in places and start not in places


def shut_out(reached, root, taken):
    """A smallest tuple of places into which no road taken leads, without the root; () where there is none."""
    # What leads to a place is led into by nothing else, so within a smallest one the roads lead from each to each.
    behind = [led_from(taken, place) for place in reached]
    return min([places for places in behind if root not in places], key=len, default=())


def led_from(taken, place):
    """The rising tuple of all places from which the roads taken lead to a place, itself among them."""
    found = {place: True}
    grown = True
    while grown:
        grown = False
        for start, end in taken:
            if leads_into(start, end, found):
                found[start] = True
                grown = True
    return tuple(sorted(found))


def cheapest_into(left, places):
    """A road into the places of which the least is left."""
    return min([road for road in left if leads_into(road[0], road[1], places)], key=lambda road: left[road])


def lessened(left, places, weight):
    """What is left of each road's price when a weight is laid upon the roads into the places."""
    return {road: left[road] - (weight if leads_into(road[0], road[1], places) else 0) for road in left}


def tree_of(reached, root, taken):
    """The tree that stays when each road taken, the last one first, is dropped where it isn't needed."""
    # Within each tuple of places that was shut out, earlier roads lead from each to each, and these are still there
    # when the roads into it are looked at: so just one of them stays, and the tree's price is the sum of all weights.
    kept = list(taken)
    for road in reversed(taken):
        others = [other for other in kept if other != road]
        if not shut_out(reached, root, others):
            kept = others
    return {end: start for start, end in kept}


def are_weights(net, root, weights):
    """Whether a list of anybody's is one of weights of which no road bears more than its price."""
    reached = earliest(net, root)
    if not isinstance(weights, list) or not all(is_weight(reached, root, entry) for entry in weights):
        return False
    if len(set([places for places, weight in weights])) < len(weights):
        return False
    return all(load_of(weights, start, end) <= cost for start, end, cost, late in roads_between(net, reached))


def load_of(weights, start, end):
    """The sum of the weights of all those tuples that a road leads into."""
    return sum(weight for places, weight in weights if leads_into(start, end, places))


def is_weight(reached, root, thing):
    """Whether anything at all is a tuple (places, weight), of places reached but the root."""
    if not (isinstance(thing, tuple) and len(thing) == 2):
        return False
    places, weight = thing
    if not (isinstance(places, tuple) and len(places) > 0 and is_whole(weight) and weight > 0):
        return False
    if not all(is_whole(place) and place in reached and place != root for place in places):
        return False
    return rises(places)


def shows_everywhere(net, root, weights, number):
    """Whether a list is one of weights, and they sum to the number or more."""
    return are_weights(net, root, weights) and sum(weight for places, weight in weights) >= number
