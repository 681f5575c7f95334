"""Why copies have counts: all short weavings, tried with counts and without."""

from hearkenway.errors import NoDeed, NoPlace, NoWays
from hearkenway.hearing import Hearing, need_ways
from hearkenway.kinds import is_within
from hearkenway.weaving import rise

MANNERS = ("counted", "uncounted")
MOST_TRIED_PLACES = 3
MOST_COMES = 2
MOST_COMES_IN_ALL = 3
MOST_EMITS = 3
MOST_DEEDS = 12


def tried(up, manner, comes, emits, number):
    """("breaks", deeds) of the fewest deeds that break a stay, or ("holds", number)."""
    need_trial(up, manner, comes, emits)
    if not is_within(number, 0, MOST_DEEDS):
        raise NoDeed("the number of deeds must be from 0 to 12")
    trials = [(begun(up, manner), [])]
    seen = set()
    for turn in range(number):
        longer = []
        for hearing, deeds in trials:
            for deed in next_deeds(hearing, comes, emits):
                grown = twin(hearing)
                grown.do(deed)
                if is_broken(grown):
                    return ("breaks", [*deeds, deed])
                view = outlook(grown)
                if view not in seen:
                    seen.add(view)
                    longer.append((grown, [*deeds, deed]))
        trials = longer
    return ("holds", number)


def breaks(up, manner, comes, emits, deeds):
    """Whether the deeds may all be done, no oftener than told, and break a stay."""
    need_trial(up, manner, comes, emits)
    hearing = begun(up, manner)
    for deed in deeds:
        try:
            hearing.do(deed)
        except (NoDeed, NoPlace):
            return False
    return is_within_told(hearing, comes, emits) and is_broken(hearing)


def need_trial(up, manner, comes, emits):
    need_ways(up)
    if len(up) > MOST_TRIED_PLACES:
        raise NoWays("ways up that are tried must have at most three places")
    if not (isinstance(manner, str) and manner in MANNERS):
        raise NoDeed("the manner must be counted or uncounted")
    if not are_comes(up, comes):
        raise NoDeed("comes must be a tuple with a number from 0 to 2 for each place, 3 in all at most")
    if not is_within(emits, 0, MOST_EMITS):
        raise NoDeed("the number of emits must be from 0 to 3")


def are_comes(up, thing):
    """Whether anything at all is a tuple that tells how often each place may come."""
    if not (isinstance(thing, tuple) and len(thing) == len(up)):
        return False
    return all(is_within(many, 0, MOST_COMES) for many in thing) and sum(thing) <= MOST_COMES_IN_ALL


def begun(up, manner):
    hearing = Hearing(up)
    hearing.counted = manner == "counted"
    return hearing


def twin(hearing):
    """Another Hearing that stands as this one does."""
    other = Hearing(hearing.ahead)
    other.counted = hearing.counted
    other.hears = list(hearing.hears)
    other.counts = list(hearing.counts)
    other.served = [{below: row[below] for below in row} for row in hearing.served]
    other.letter_rows = [list(row) for row in hearing.letter_rows]
    other.copy_rows = [list(row) for row in hearing.copy_rows]
    other.stay_lists = [[list(stay) for stay in row] for row in hearing.stay_lists]
    other.emitted = hearing.emitted
    other.letter_sum = hearing.letter_sum
    other.copy_sum = hearing.copy_sum
    return other


def next_deeds(hearing, comes, emits):
    """All deeds that may be done next, no oftener than told."""
    deeds = []
    for place in range(len(hearing.ahead)):
        if hearing.hears[place]:
            deeds.append(("go", place))
        elif len(hearing.stay_lists[place]) < comes[place]:
            deeds.append(("come", place))
        letters, copies = hearing.waiting(place)
        if letters > 0:
            deeds.append(("up", place))
        if copies > 0:
            deeds.append(("down", place))
    if hearing.emitted < emits:
        deeds.append(("emit",))
    return deeds


def is_within_told(hearing, comes, emits):
    """Whether each place came, and numbers were emitted, no oftener than told."""
    # Each come begins a stay, so the stays count the comes.
    if not all(len(stays) <= many for stays, many in zip(hearing.stay_lists, comes)):
        return False
    return hearing.emitted <= emits


def is_broken(hearing):
    return not all(rise(stays) for stays in hearing.stay_lists)


def outlook(hearing):
    """All on which it hangs what may still be done to an unbroken Hearing and what breaks it then."""
    return (
        tuple(hearing.hears),
        tuple([len(stays) for stays in hearing.stay_lists]),
        tuple([last_number(hearing, place) for place in range(len(hearing.ahead))]),
        tuple(hearing.counts),
        tuple([tuple(sorted(row.items())) for row in hearing.served]),
        tuple([tuple(row) for row in hearing.letter_rows]),
        tuple([tuple(row) for row in hearing.copy_rows]),
        hearing.emitted,
    )


def last_number(hearing, place):
    """The last number of the stay that is going on at a place, or None where there is none."""
    if not hearing.hears[place] or not hearing.stay_lists[place][-1]:
        return None
    return hearing.stay_lists[place][-1][-1]
