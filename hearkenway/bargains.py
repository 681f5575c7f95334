"""Bargains: the ways to a place that no other way betters in both price and lateness."""

from hearkenway.errors import TooMany
from hearkenway.kinds import is_whole
from hearkenway.nets import is_place, need_net, need_place

MOST_BARGAINS = 60


def bargains(net, root):
    """A dict from each place that can be reached to its bargains (price, late), rising by price."""
    need_net(net)
    need_place(net, root)
    found = best_ways(net, root)
    return {place: [(cost, late) for cost, late, way in found[place]] for place in found}


def way_for(net, root, place, pair):
    """A way that has just this bargain, or None where the pair is none of the place."""
    need_net(net)
    need_place(net, root)
    need_place(net, place)
    found = best_ways(net, root)
    if not is_pair(pair):
        return None
    for cost, late, way in found.get(place, []):
        if (cost, late) == pair:
            return list(way)
    return None


def cheapest_within(net, root, place, late):
    """(price, way) of the cheapest way to a place that is no later than late, or None."""
    need_net(net)
    need_place(net, root)
    need_place(net, place)
    # Prices rise and latenesses fall, so the first one within it is the cheapest.
    for cost, total, way in best_ways(net, root).get(place, []):
        if total <= late:
            return (cost, list(way))
    return None


def best_ways(net, root):
    """A dict from each place that can be reached to tuples (price, late, way) of its bargains, rising."""
    found = {}
    waiting = [(0, 0, (root,))]
    while waiting:
        cost, late, way = waiting.pop(0)
        place = way[-1]
        if is_matched(found, place, late):
            continue
        row = found.setdefault(place, [])
        row.append((cost, late, way))
        if len(row) > MOST_BARGAINS:
            raise TooMany("a place has more than 60 bargains")
        for start, end, more, later in net[1]:
            if start == place and not is_matched(found, end, late + later):
                put_in(waiting, (cost + more, late + later, (*way, end)))
    return found


def is_matched(found, place, late):
    """Whether a way found to a place is as good as one so late that comes now."""
    # Ways come rising by price, so none found is dearer, and the last one found is the earliest.
    # Whoever comes back to a place is later than before, so no way found enters a place twice.
    return place in found and found[place][-1][1] <= late


def put_in(row, entry):
    """Put an entry into a rising list, so that it still rises."""
    low = 0
    high = len(row)
    while low < high:
        middle = (low + high) // 2
        if row[middle] < entry:
            low = middle + 1
        else:
            high = middle
    row.insert(low, entry)


def is_pair(thing):
    """Whether anything at all is a pair of whole numbers."""
    return isinstance(thing, tuple) and len(thing) == 2 and all(is_whole(number) for number in thing)


def are_bargains(net, root, table):
    """Whether a dict of anybody's shows that no way is better than what it has."""
    need_net(net)
    need_place(net, root)
    if not has_pairs(net, table) or (0, 0) not in table.get(root, []):
        return False
    return all(is_led_on(table, road, pair) for road in net[1] for pair in table.get(road[0], []))


def has_pairs(net, thing):
    """Whether anything at all is a dict from places to lists of pairs of whole numbers from 0 on."""
    if not isinstance(thing, dict) or not all(is_place(net, place) for place in thing):
        return False
    if not all(isinstance(row, list) for row in thing.values()):
        return False
    return all(is_pair(pair) and min(pair) >= 0 for row in thing.values() for pair in row)


def is_led_on(table, road, pair):
    """Whether the end of a road has a pair no greater in both than the pair and the road together."""
    start, end, more, later = road
    cost, late = pair
    return any(low <= cost + more and soon <= late + later for low, soon in table.get(end, []))
