"""What each hears when, where letters and copies are under way for told latenesses."""

from hearkenway.errors import NoEvents, NoPlace
from hearkenway.hearing import Hearing, is_deed, need_ways
from hearkenway.kinds import is_whole, is_within

MOST_LATENESS = 100
TOLD_WORDS = ("come", "go", "emit")


def heard(up, late, events):
    """A dict from each place to its stays, lists of (number, moment), behind the told events."""
    need_ways(up)
    need_lates(up, late)
    if not are_events(events):
        raise NoEvents("events must be a list of (moment, deed), moments never falling, deeds come, go and emit")
    need_places(up, [deed[1] for moment, deed in events if deed[0] != "emit"])
    course = Course(up, late)
    for moment, deed in events:
        course.pass_to(moment)
        course.act(moment, deed)
    course.pass_to(None)
    return course.told


def first_moments(up, late, comes):
    """A dict from each place that comes to the first moment at which what is emitted is heard there."""
    need_ways(up)
    need_lates(up, late)
    if not are_moments(comes):
        raise NoEvents("comes must be a dict from places to moments from 0 on")
    need_places(up, list(comes))
    return {place: first_moment(up, late, comes, place) for place in sorted(comes)}


def need_lates(up, late):
    if not (isinstance(late, tuple) and len(late) == len(up)):
        raise NoEvents("latenesses must be a tuple with a number for each place")
    for ahead, number in zip(up, late):
        if not (is_within(number, 0, 0) if ahead is None else is_within(number, 1, MOST_LATENESS)):
            raise NoEvents("latenesses must be from 1 to 100, and 0 for the root")


def need_places(up, numbers):
    if not all(is_within(number, 0, len(up) - 1) for number in numbers):
        raise NoPlace("one that comes or goes is no place of the ways up")


def are_events(thing):
    """Whether anything at all is a list of events whose moments never fall."""
    if not isinstance(thing, list) or not all(is_event(event) for event in thing):
        return False
    return all(low[0] <= high[0] for low, high in zip(thing, thing[1:]))


def is_event(thing):
    """Whether anything at all is a tuple of a moment and a deed that may be told, of whatever whole number."""
    if not (isinstance(thing, tuple) and len(thing) == 2 and is_moment(thing[0])):
        return False
    deed = thing[1]
    return is_deed(deed) and deed[0] in TOLD_WORDS and all(is_whole(number) for number in deed[1:])


def is_moment(thing):
    return is_whole(thing) and thing >= 0


def are_moments(thing):
    """Whether anything at all is a dict from whole numbers to moments."""
    if not isinstance(thing, dict):
        return False
    return all(is_whole(key) and is_moment(moment) for key, moment in thing.items())


class Course:
    """A Hearing whose letters and copies are taken when they are due, and what was heard in it when."""

    def __init__(self, up, late):
        self.hearing = Hearing(up)
        self.late = late
        # Beside each row of letters or copies, the moments at which they are due.
        self.letter_dues = [[] for place in up]
        self.copy_dues = [[] for place in up]
        self.told = {place: [] for place in range(len(up))}

    def pass_to(self, moment):
        """Take all that is due up to a moment, or all that there is where it is None."""
        now = self.first_due()
        while now is not None and (moment is None or now <= moment):
            self.take_due(now)
            now = self.first_due()

    def first_due(self):
        """The first moment at which something is due, or None where nothing is under way."""
        return min([row[0] for row in self.letter_dues + self.copy_dues if row], default=None)

    def take_due(self, now):
        """Take what is due at a moment: letters first, then copies, by places rising."""
        # What is put up or down now is due later, so no row grows here by anything that is due now.
        for place in range(len(self.late)):
            while self.letter_dues[place][:1] == [now]:
                self.letter_dues[place].pop(0)
                self.act(now, ("up", place))
        for place in range(len(self.late)):
            while self.copy_dues[place][:1] == [now]:
                self.copy_dues[place].pop(0)
                self.act(now, ("down", place))

    def act(self, now, deed):
        """Do a deed at a moment."""
        self.hearing.do(deed)
        for place in range(len(self.late)):
            self.note_dues(now, place)
            self.note_stays(now, place)

    def note_dues(self, now, place):
        """Write down when a letter and a copy are due that the last deed put in the rows of a place."""
        letters, copies = self.hearing.waiting(place)
        if len(self.letter_dues[place]) < letters:
            self.letter_dues[place].append(now + self.late[place])
        if len(self.copy_dues[place]) < copies:
            self.copy_dues[place].append(now + self.late[place])

    def note_stays(self, now, place):
        """Write down the stay that the last deed began at a place, and the number that was heard by it there."""
        stays = self.hearing.stay_lists[place]
        told = self.told[place]
        if len(told) < len(stays):
            told.append([])
        if told and len(told[-1]) < len(stays[-1]):
            told[-1].append((stays[-1][-1], now))


def way_up(up, place):
    """The places from a place up to the root, both among them."""
    way = [place]
    while up[way[-1]] is not None:
        way.append(up[way[-1]])
    return way


def first_moment(up, late, comes, place):
    """The first moment of one that comes."""
    if up[place] is None:
        return comes[place]
    moments = []
    for at in way_up(up, place)[:-1]:
        served = needed_from(up, late, comes, at) + late[at]
        moments.append(served - sum(late[above] for above in way_up(up, up[at])))
    return max(moments)


def needed_from(up, late, comes, place):
    """The earliest moment at which a place is needed, at or below which somebody comes."""
    moments = []
    for comer in comes:
        way = way_up(up, comer)
        if place in way:
            moments.append(comes[comer] + sum(late[at] for at in way[: way.index(place)]))
    return min(moments)
