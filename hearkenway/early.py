"""Earliest ways from a root, and what shows that nothing is earlier or reached."""

from hearkenway.nets import are_places, are_whole_pairs, need_net, need_place


def earliest(net, root):
    """A dict from each place that can be reached to its least lateness."""
    need_net(net)
    need_place(net, root)
    many, roads = net
    least = {root: 0}
    # An earliest way enters no place twice, so as many rounds as places are enough.
    for turn in range(many):
        for start, end, cost, late in roads:
            if undercuts(least, start, end, late):
                least[end] = least[start] + late
    return least


def ways(net, root):
    """A tree of all places that can be reached, each with its least lateness."""
    least = earliest(net, root)
    ahead = {}
    for start, end, cost, late in net[1]:
        if start in least and least[start] + late == least[end]:
            ahead[end] = start
    return ahead


def are_earliest(net, root, numbers):
    """Whether a dict of anybody's is that of the least latenesses."""
    need_net(net)
    need_place(net, root)
    if not are_whole_pairs(numbers) or root not in numbers or numbers[root] != 0:
        return False
    if any(undercuts(numbers, start, end, late) for start, end, cost, late in net[1]):
        return False
    return all(place == root or is_attained(net, numbers, place) for place in numbers)


def undercuts(numbers, start, end, more):
    """Whether a road from a place in numbers leads out of them, or to its end with less than they say."""
    return start in numbers and (end not in numbers or numbers[start] + more < numbers[end])


def is_attained(net, numbers, place):
    """Whether some road from a place in numbers makes this place's number just so great."""
    return any(
        end == place and start in numbers and numbers[start] + late == numbers[place]
        for start, end, cost, late in net[1]
    )


def is_closed(net, root, places):
    """Whether a tuple is a rising one of places with the root, from which no road leads out."""
    need_net(net)
    need_place(net, root)
    if not are_places(net, places) or root not in places:
        return False
    return all(end in places for start, end, cost, late in net[1] if start in places)
