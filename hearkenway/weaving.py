"""What deeds come to, whatever their weaving."""

from hearkenway.hearing import Hearing
from hearkenway.kinds import is_whole


def played(up, deeds):
    """A dict from each place to its stays behind the deeds."""
    hearing = after(up, deeds)
    return {place: hearing.stays(place) for place in range(len(up))}


def after(up, deeds):
    """A Hearing behind the deeds."""
    hearing = Hearing(up)
    for deed in deeds:
        hearing.do(deed)
    return hearing


def at_rest(up, deeds):
    """A dict from each place to those that it serves when, behind the deeds, all letters are taken."""
    hearing = after(up, deeds)
    moving = True
    while moving:
        moving = False
        for place in range(len(up)):
            if hearing.waiting(place)[0] > 0:
                hearing.do(("up", place))
                moving = True
    return {place: hearing.serves(place) for place in range(len(up))}


def are_stays(up, deeds, stays):
    """Whether a dict of anybody's has just the stays behind the deeds, with a list for each place."""
    told = played(up, deeds)
    return has_stays(stays) and stays == told


def has_stays(thing):
    """Whether anything at all is a dict from whole numbers to lists of lists of whole numbers."""
    # True and 1 are the same to Python's ==, so what lies in it is looked at, too.
    if not isinstance(thing, dict) or not all(is_whole(place) for place in thing):
        return False
    if not all(isinstance(stays, list) for stays in thing.values()):
        return False
    if not all(isinstance(stay, list) for stays in thing.values() for stay in stays):
        return False
    return all(is_whole(number) for stays in thing.values() for stay in stays for number in stay)


def rise(stays):
    """Whether in each of these stays the numbers rise by one."""
    return all(high == low + 1 for stay in stays for low, high in zip(stay, stay[1:]))
