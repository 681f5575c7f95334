"""A hearing that keeps all that ever happened and reads each answer off that, to hold beside the program's."""

import random

WORDS = ("come", "go", "up", "down")

# How gladly each word is drawn: evenly, letters late, copies late, many goings, few.
MIXES = (
    {"come": 2, "go": 2, "up": 2, "down": 2, "emit": 2},
    {"come": 3, "go": 3, "up": 1, "down": 4, "emit": 3},
    {"come": 3, "go": 3, "up": 4, "down": 1, "emit": 3},
    {"come": 9, "go": 9, "up": 3, "down": 3, "emit": 3},
    {"come": 2, "go": 1, "up": 9, "down": 9, "emit": 9},
)


class SlowHearing:
    def __init__(self, up, counted=True):
        self.ahead = up
        self.places = range(len(up))
        self.root = up.index(None)
        self.counted = counted
        self.put_up = {place: [] for place in self.places}
        self.read = {place: 0 for place in self.places}
        self.put_down = {place: [] for place in self.places}
        self.got = {place: 0 for place in self.places}
        self.stays = {place: [] for place in self.places}
        self.hearing = set()
        self.told = 0

    def twin(self):
        other = SlowHearing(self.ahead, self.counted)
        other.put_up = {place: list(row) for place, row in self.put_up.items()}
        other.put_down = {place: list(row) for place, row in self.put_down.items()}
        other.stays = {place: [list(stay) for stay in row] for place, row in self.stays.items()}
        other.read, other.got = dict(self.read), dict(self.got)
        other.hearing, other.told = set(self.hearing), self.told
        return other

    def serves(self, place):
        """Those right below whose last letter taken is a graft."""
        return tuple(
            below
            for below in self.places
            if self.ahead[below] == place and self.put_up[below][: self.read[below]][-1:] == ["graft"]
        )

    def needed(self, place):
        return place in self.hearing or self.serves(place) != ()

    def waiting(self, place):
        return (len(self.put_up[place]) - self.read[place], len(self.put_down[place]) - self.got[place])

    def letters(self):
        return sum(len(row) for row in self.put_up.values())

    def copies(self):
        return sum(len(row) for row in self.put_down.values())

    def may(self, word, place):
        return {
            "come": place not in self.hearing,
            "go": place in self.hearing,
            "up": self.waiting(place)[0] > 0,
            "down": self.waiting(place)[1] > 0,
        }[word]

    def deeds(self):
        """All deeds that may be done."""
        return [(word, place) for word in WORDS for place in self.places if self.may(word, place)] + [("emit",)]

    def do(self, deed):
        before = {place: self.needed(place) for place in self.places}
        if deed == ("emit",):
            self.told += 1
            self.take(self.root, self.told - 1)
        else:
            word, place = deed
            assert self.may(word, place)
            {"come": self.come, "go": self.hearing.remove, "up": self.take_letter, "down": self.take_copy}[word](place)
        for place in self.places:
            if place != self.root and before[place] != self.needed(place):
                self.put_up[place].append("graft" if self.needed(place) else "cut")

    def come(self, place):
        self.hearing.add(place)
        self.stays[place].append([])

    def take_letter(self, place):
        self.read[place] += 1

    def take_copy(self, place):
        number, count = self.put_down[place][self.got[place]]
        self.got[place] += 1
        if self.needed(place) and (not self.counted or count == self.put_up[place].count("graft")):
            self.take(place, number)

    def take(self, place, number):
        if place in self.hearing:
            self.stays[place][-1].append(number)
        for below in self.serves(place):
            count = self.put_up[below][: self.read[below]].count("graft")
            self.put_down[below].append((number, count))

    def is_broken(self):
        return any(not rises_by_one(stay) for stays in self.stays.values() for stay in stays)


class SlowCourse:
    """A slow hearing that goes from moment to moment, with the moments of all that was put up and down."""

    def __init__(self, up, late):
        self.slow = SlowHearing(up)
        self.late = late
        self.up_moments = {place: [] for place in self.slow.places}
        self.down_moments = {place: [] for place in self.slow.places}
        self.told = {place: [] for place in self.slow.places}

    def do(self, now, deed):
        self.slow.do(deed)
        for place in self.slow.places:
            for moments, rows in ((self.up_moments, self.slow.put_up), (self.down_moments, self.slow.put_down)):
                moments[place] += [now] * (len(rows[place]) - len(moments[place]))
            stays = self.slow.stays[place]
            self.told[place] += [[] for stay in stays[len(self.told[place]) :]]
            for told, stay in zip(self.told[place], stays):
                told += [(number, now) for number in stay[len(told) :]]

    def under_way(self):
        return any(self.slow.waiting(place) != (0, 0) for place in self.slow.places)

    def take_due(self, now):
        for word, moments, taken in (("up", self.up_moments, self.slow.read), ("down", self.down_moments, self.slow.got)):
            for place in self.slow.places:
                for moment in moments[place][taken[place] :]:
                    if moment + self.late[place] == now:
                        self.do(now, (word, place))


def slowly_heard(up, late, events):
    """What is heard when, moment by moment; where nothing is under way, on to the next event."""
    course = SlowCourse(up, late)
    left = list(events)
    now = 0
    while left or course.under_way():
        if not course.under_way():
            now = left[0][0]
        course.take_due(now)
        while left and left[0][0] == now:
            course.do(now, left.pop(0)[1])
        now += 1
    return course.told


def rises_by_one(stay):
    return not stay or stay == list(range(stay[0], stay[0] + len(stay)))


def depth(up, place):
    """How many roads there are from a place to the root."""
    return 0 if up[place] is None else 1 + depth(up, up[place])


def below_or_at(up, top):
    """A place and all below it."""
    return {place for place in range(len(up)) if top in way_home(up, place)}


def way_home(up, place):
    """The places from a place to the root, both with them."""
    return [place] if up[place] is None else [place, *way_home(up, up[place])]


def drawn_ways(dice, places):
    """Ways up of so many places, of any form, the root anywhere."""
    names = dice.sample(range(places), places)
    up = [None] * places
    for at in range(1, places):
        low = dice.choice((0, max(0, at - 2)))
        up[names[at]] = names[dice.randrange(low, at)]
    return tuple(up)


def drawn_weavings(seed, most_places, turns, many):
    """(up, deeds) for ways up of one to so many places, so many deeds each, always the same for one seed."""
    dice = random.Random(seed)
    for turn in range(turns):
        up = drawn_ways(dice, 1 + turn % most_places)
        yield up, drawn_deeds(dice, SlowHearing(up), many)


def drawn_deeds(dice, slow, many):
    """So many deeds that may be done, done to a slow hearing."""
    mix = dice.choice(MIXES)
    deeds = []
    for turn in range(many):
        may = slow.deeds()
        deed = dice.choices(may, [mix[deed[0]] for deed in may])[0]
        slow.do(deed)
        deeds.append(deed)
    return deeds
