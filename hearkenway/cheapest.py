"""Cheapest trees for hearers, and the tables that show that no tree is cheaper."""

from hearkenway.early import earliest
from hearkenway.errors import NoPlace, TooMany
from hearkenway.kinds import is_whole
from hearkenway.nets import need_hearers, need_net, need_place, trimmed

MOST_HEARERS = 6


def cheapest(net, root, hearers):
    """("tree", ahead, table) of a cheapest trim tree, or ("none", places) where a hearer can't be reached."""
    need_net(net)
    need_place(net, root)
    need_few_hearers(net, hearers)
    reached = earliest(net, root)
    if not all(place in reached for place in hearers):
        return ("none", tuple(sorted(reached)))
    table, steps = greatest_table(net, hearers)
    return ("tree", trimmed(hearers, tree_along(steps, hearers, root)), table)


def is_table(net, hearers, table):
    """Whether a dict of anybody's is a table for the hearers that holds."""
    need_net(net)
    need_few_hearers(net, hearers)
    return holds(net, hearers, table)


def shows(net, root, hearers, table, number):
    """Whether a dict is a table that holds and has no less than the number at the root, of all hearers."""
    need_net(net)
    need_place(net, root)
    need_few_hearers(net, hearers)
    return holds(net, hearers, table) and not is_less(table[hearers, root], number)


def need_few_hearers(net, hearers):
    need_hearers(net, hearers)
    if not hearers:
        raise NoPlace("there must be at least one hearer")
    if len(hearers) > MOST_HEARERS:
        raise TooMany("there must be at most six hearers")


def together(one, other):
    """The sum of two numbers of a table; None counts as greater than all."""
    if one is None or other is None:
        return None
    return one + other


def is_less(one, other):
    """Whether a number of a table is less than another; None counts as greater than all."""
    return one is not None and (other is None or one < other)


def companies(hearers):
    """All rising tuples of one or more hearers, each behind all those of some of its own."""
    found = [()]
    for place in hearers:
        found = found + [(*some, place) for some in found]
    return found[1:]


def partings(some):
    """All pairs of companies without a common hearer that are some together, each pair once."""
    first = some[:1]
    rest = some[1:]
    pairs = []
    for other in companies(rest):
        pairs.append((first + tuple(place for place in rest if place not in other), other))
    return pairs


def greatest_table(net, hearers):
    """The greatest table that holds, and the steps by which its numbers come about."""
    table = {}
    steps = {}
    for some in companies(hearers):
        for place in range(net[0]):
            table[some, place] = None
        if len(some) == 1:
            table[some, some[0]] = 0
            steps[some, some[0]] = []
        join_parts(net, table, steps, some)
        follow_roads(net, table, steps, some)
    return table, steps


def join_parts(net, table, steps, some):
    """Lessen the numbers of some hearers by those of their parts at the same place."""
    for one, other in partings(some):
        for place in range(net[0]):
            number = together(table[one, place], table[other, place])
            if is_less(number, table[some, place]):
                table[some, place] = number
                steps[some, place] = [(one, place), (other, place)]


def follow_roads(net, table, steps, some):
    """Lessen the numbers of some hearers along the roads, until none can be lessened."""
    lessened = True
    while lessened:
        lessened = False
        for start, end, cost, late in net[1]:
            number = together(table[some, end], cost)
            # A step is only ever taken for less, so steps never run in a ring, not even by roads of price 0.
            if is_less(number, table[some, start]):
                table[some, start] = number
                steps[some, start] = [(some, end)]
                lessened = True


def tree_along(steps, hearers, root):
    """A tree along the steps by which the number at the root, of all hearers, comes about."""
    ahead = {}
    waiting = [(hearers, root)]
    while waiting:
        some, start = waiting.pop()
        for part, end in steps[some, start]:
            # By roads of price 0 the ways of two parts may cross; a tree comes to each place by one road only.
            if end != root and end not in ahead:
                ahead[end] = start
            waiting.append((part, end))
    return ahead


def holds(net, hearers, table):
    """Whether anything at all is a table that holds; net and hearers are known to be such."""
    if not has_form(net, hearers, table):
        return False
    return all(holds_of(net, table, some) for some in companies(hearers))


def has_form(net, hearers, table):
    """Whether anything at all is a dict with just a table's keys and with what may stand in a table."""
    if not isinstance(table, dict):
        return False
    keys = [(some, place) for some in companies(hearers) for place in range(net[0])]
    if len(table) != len(keys) or not all(key in table for key in keys):
        return False
    # True and 1 are the same key to a dict, so the keys themselves are looked at, too.
    if not all(is_whole(place) for some, end in table for place in (*some, end)):
        return False
    return all(number is None or (is_whole(number) and number >= 0) for number in table.values())


def holds_of(net, table, some):
    """Whether no home, road or parting undercuts a table's numbers of some hearers."""
    if len(some) == 1 and table[some, some[0]] != 0:
        return False
    for start, end, cost, late in net[1]:
        if is_less(together(table[some, end], cost), table[some, start]):
            return False
    return not any(
        is_less(together(table[one, place], table[other, place]), table[some, place])
        for one, other in partings(some)
        for place in range(net[0])
    )
