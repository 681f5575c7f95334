"""Nets, trees in them, and the refusals of what is handed in with a net."""

from hearkenway.errors import NoNet, NoPlace, NoTree
from hearkenway.kinds import is_whole, is_within, rises

MOST_PLACES = 12
MOST_PRICE = 1000
LEAST_LATE = 1
MOST_LATE = 1000


def is_net(thing):
    """Whether anything at all is a net (n, roads)."""
    if not (isinstance(thing, tuple) and len(thing) == 2):
        return False
    many, roads = thing
    if not (is_within(many, 1, MOST_PLACES) and isinstance(roads, tuple)):
        return False
    if not all(is_road(many, road) for road in roads):
        return False
    # Rising roads of unlike pairs are just those whose pairs rise.
    return rises([road[:2] for road in roads])


def is_road(many, thing):
    """Whether anything at all is a road between unlike ones of so many places."""
    if not (isinstance(thing, tuple) and len(thing) == 4):
        return False
    start, end, cost, late = thing
    if not (is_within(start, 0, many - 1) and is_within(end, 0, many - 1) and start != end):
        return False
    return is_within(cost, 0, MOST_PRICE) and is_within(late, LEAST_LATE, MOST_LATE)


def is_place(net, thing):
    return is_within(thing, 0, net[0] - 1)


def are_places(net, thing):
    """Whether anything at all is a rising tuple of places, as hearers are."""
    if not isinstance(thing, tuple):
        return False
    return all(is_place(net, place) for place in thing) and rises(thing)


def are_whole_pairs(thing):
    """Whether anything at all is a dict from whole numbers to whole numbers."""
    if not isinstance(thing, dict):
        return False
    return all(is_whole(key) and is_whole(number) for key, number in thing.items())


def need_net(net):
    if not is_net(net):
        raise NoNet("what was handed in as a net is none")


def need_place(net, place):
    if not is_place(net, place):
        raise NoPlace("what was handed in as a root or a place is no place of the net")


def need_hearers(net, hearers):
    if not are_places(net, hearers):
        raise NoPlace("hearers must be a rising tuple of places of the net")


def need_tree(net, root, ahead):
    if not grows(net, root, ahead):
        raise NoTree("what was handed in as a tree is none from this root")


def grows(net, root, ahead):
    """Whether ahead is a tree; net and root are known to be such."""
    if not are_whole_pairs(ahead) or root in ahead:
        return False
    prices = road_prices(net)
    if not all((start, end) in prices for end, start in ahead.items()):
        return False
    return all(leads_to(root, ahead, place) for place in ahead)


def leads_to(root, ahead, place):
    """Whether going ahead and ahead from a place comes to the root."""
    # A way without a ring takes no more steps than there are keys.
    for step in range(len(ahead)):
        if place in ahead:
            place = ahead[place]
    return place == root


def road_prices(net):
    return {(start, end): cost for start, end, cost, late in net[1]}


def road_lates(net):
    return {(start, end): late for start, end, cost, late in net[1]}


def is_tree(net, root, ahead):
    """Whether a dict is a tree from the root."""
    need_net(net)
    need_place(net, root)
    return grows(net, root, ahead)


def is_trim(net, root, hearers, ahead):
    """Whether a dict is a tree from the root that is trim for the hearers."""
    need_net(net)
    need_place(net, root)
    need_hearers(net, hearers)
    if not grows(net, root, ahead) or not serves(root, hearers, ahead):
        return False
    copying = list(ahead.values())
    return all(place in hearers or place in copying for place in ahead)


def serves(root, hearers, ahead):
    return all(place == root or place in ahead for place in hearers)


def trimmed(hearers, ahead):
    """The part of a tree that is on the ways to the hearers, which it serves."""
    kept = {}
    for place in hearers:
        at = place
        while at in ahead:
            kept[at] = ahead[at]
            at = ahead[at]
    return kept


def price(net, root, ahead):
    """The sum of the prices of a tree's roads."""
    need_net(net)
    need_place(net, root)
    need_tree(net, root, ahead)
    prices = road_prices(net)
    return sum(prices[start, end] for end, start in ahead.items())


def lateness(net, root, ahead):
    """A dict from each place in a tree to its lateness."""
    need_net(net)
    need_place(net, root)
    need_tree(net, root, ahead)
    lates = road_lates(net)
    told = {root: 0}
    for place in ahead:
        told[place] = lateness_up(lates, root, ahead, place)
    return told


def lateness_up(lates, root, ahead, place):
    """The lates of the roads from the root to a place in the tree, together."""
    total = 0
    while place != root:
        total += lates[ahead[place], place]
        place = ahead[place]
    return total
