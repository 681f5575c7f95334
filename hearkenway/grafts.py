"""Places grafted to a tree as cheaply as can be, and trees cut for fewer hearers."""

from hearkenway.early import undercuts
from hearkenway.errors import NoTree
from hearkenway.nets import are_whole_pairs, is_place, need_hearers, need_net, need_place, need_tree, serves, trimmed


def graft(net, root, ahead, place):
    """(new tree, sum, numbers), or (None, None, numbers) where the place can't be reached."""
    need_net(net)
    need_place(net, root)
    need_place(net, place)
    need_tree(net, root, ahead)
    numbers, before = ways_from_tree(net, root, ahead)
    if place not in numbers:
        return (None, None, numbers)
    grown = dict(ahead)
    at = place
    while at in before:
        grown[at] = before[at]
        at = before[at]
    return (grown, numbers[place], numbers)


def ways_from_tree(net, root, ahead):
    """The least price of a way from the tree to each place, and the place before each on such a way."""
    numbers = {place: 0 for place in ahead}
    numbers[root] = 0
    before = {}
    lessened = True
    while lessened:
        lessened = False
        for start, end, cost, late in net[1]:
            # Places in the tree have 0 already, so no way is ever led through them.
            if undercuts(numbers, start, end, cost):
                numbers[end] = numbers[start] + cost
                before[end] = start
                lessened = True
    return numbers, before


def are_prices(net, root, ahead, numbers):
    """Whether a dict of anybody's shows that no way from the tree costs less than its numbers."""
    need_net(net)
    need_place(net, root)
    need_tree(net, root, ahead)
    if not are_whole_pairs(numbers):
        return False
    if not all(is_place(net, place) and number >= 0 for place, number in numbers.items()):
        return False
    if not all(place in numbers and numbers[place] == 0 for place in (root, *ahead)):
        return False
    return not any(undercuts(numbers, start, end, cost) for start, end, cost, late in net[1])


def cut(net, root, hearers, ahead):
    """The only tree within a tree that is trim for the hearers."""
    need_net(net)
    need_place(net, root)
    need_hearers(net, hearers)
    need_tree(net, root, ahead)
    if not serves(root, hearers, ahead):
        raise NoTree("the tree doesn't serve all the hearers")
    return trimmed(hearers, ahead)
