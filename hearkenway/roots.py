"""The next root behind a fall, and what is sent again to those that lack it."""

from hearkenway.cheapest import MOST_HEARERS, cheapest
from hearkenway.errors import NoKept, TooMany
from hearkenway.kinds import is_whole, rises
from hearkenway.nets import MOST_PLACES, are_whole_pairs, is_place, is_trim, need_net, trimmed


def next_root(kept, row):
    """(place, number): the first of the row that stands and the number to go on with; None where none stands."""
    if not has_numbers(kept):
        raise NoKept("kept must be a dict from places to rising tuples of whole numbers from 0 on")
    for place in row:
        if place in kept:
            return (place, 1 + max([numbers[-1] for numbers in kept.values() if numbers], default=-1))
    return None


def mend(net, kept, wants):
    """("mended", sends, lost), or ("parted", number, places) where some that lack a number can't be reached."""
    need_fall(net, kept, wants)
    held = lookup(kept)
    wanted = lookup(wants)
    sends = {}
    lost = []
    found = {}
    for number in lacked_numbers(held, wanted):
        keepers = keepers_of(held, number)
        lackers = lackers_of(held, wanted, number)
        if not keepers:
            lost.append(number)
            continue
        # Many numbers are kept and lacked by the same places; their sends are alike.
        if (keepers, lackers) not in found:
            found[keepers, lackers] = cheapest(send_net(net, kept, number), net[0], lackers)
        told = found[keepers, lackers]
        if told[0] == "none":
            return ("parted", number, tuple(place for place in told[1] if place != net[0]))
        sends[number] = cut_at_keepers(keepers, lackers, told[1])
    return ("mended", sends, lost)


def cut_at_keepers(keepers, lackers, ahead):
    """What is sent along a tree: whoever keeps the number is sent nothing."""
    # By roads of price 0 a cheapest tree may lead from one that keeps the number to another.
    return trimmed(lackers, {place: ahead[place] for place in ahead if place not in keepers})


def send_net(net, kept, number):
    """The net with one place more, from which roads lead to those that keep the number; fallen places have none."""
    need_standing(net, kept)
    need_room(net)
    many, roads = net
    standing = [(start, end, cost, late) for start, end, cost, late in roads if start in kept and end in kept]
    return (many + 1, tuple(standing + [(many, place, 0, 1) for place in keepers_of(kept, number)]))


def is_send(net, kept, wants, number, ahead):
    """Whether a dict of anybody's sends a number to all that lack it, and to nobody in vain."""
    need_fall(net, kept, wants)
    keepers = keepers_of(kept, number)
    if not are_whole_pairs(ahead) or any(place in ahead for place in keepers):
        return False
    copying = list(ahead.values())
    whole = dict(ahead)
    for place in keepers:
        if place in copying:
            whole[place] = net[0]
    return is_trim(send_net(net, kept, number), net[0], lackers_of(kept, wants, number), whole)


def need_standing(net, kept):
    need_net(net)
    if not has_numbers(kept) or not all(is_place(net, place) for place in kept):
        raise NoKept("kept must be a dict from places of the net to rising tuples of whole numbers from 0 on")


def need_fall(net, kept, wants):
    need_standing(net, kept)
    if not has_numbers(wants) or not all(place in kept for place in wants):
        raise NoKept("wants must be a dict from places that stand to rising tuples of whole numbers from 0 on")
    if len(wants) > MOST_HEARERS:
        raise TooMany("there must be at most six wants")
    need_room(net)


def need_room(net):
    # What shows that a send is cheapest is a net with one place more.
    if net[0] >= MOST_PLACES:
        raise TooMany("the net must have at most 11 places")


def has_numbers(thing):
    """Whether anything at all is a dict from whole numbers to rising tuples of whole numbers from 0 on."""
    if not isinstance(thing, dict):
        return False
    return all(is_whole(place) and are_numbers(numbers) for place, numbers in thing.items())


def are_numbers(thing):
    if not isinstance(thing, tuple):
        return False
    return all(is_whole(number) and number >= 0 for number in thing) and rises(thing)


def lookup(things):
    """The same dict with dicts in the tuples' stead, in which a number is found at once."""
    return {place: {number: True for number in things[place]} for place in things}


def lacked_numbers(kept, wants):
    """All numbers that somebody lacks, rising."""
    return sorted({number for place in wants for number in wants[place] if number not in kept[place]})


def keepers_of(kept, number):
    """The rising tuple of those that keep a number."""
    return tuple(place for place in sorted(kept) if number in kept[place])


def lackers_of(kept, wants, number):
    """The rising tuple of those that want a number and don't keep it."""
    return tuple(place for place in sorted(wants) if number in wants[place] and number not in kept[place])
