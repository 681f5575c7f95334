"""Hearers who come and go by letters, and the copies that they hear."""

from hearkenway.errors import NoDeed, NoPlace, NoWays
from hearkenway.kinds import is_within

MOST_ENTRIES = 8
PLACE_WORDS = ("come", "go", "up", "down")


def are_ways(thing):
    """Whether anything at all is a tuple of ways up."""
    if not (isinstance(thing, tuple) and 1 <= len(thing) <= MOST_ENTRIES):
        return False
    if not all(entry is None or is_within(entry, 0, len(thing) - 1) for entry in thing):
        return False
    if len([entry for entry in thing if entry is None]) != 1:
        return False
    return all(leads_up(thing, place) for place in range(len(thing)))


def leads_up(up, place):
    """Whether going ahead and ahead from a place comes to the root."""
    # A way without a ring takes fewer steps than there are places.
    for step in range(len(up)):
        if up[place] is not None:
            place = up[place]
    return up[place] is None


def need_ways(up):
    if not are_ways(up):
        raise NoWays("what was handed in as ways up is none")


def is_deed(thing):
    """Whether anything at all has a deed's form: its word, and something in a place's stead where it needs one."""
    if not (isinstance(thing, tuple) and len(thing) > 0 and isinstance(thing[0], str)):
        return False
    if thing[0] == "emit":
        return len(thing) == 1
    return thing[0] in PLACE_WORDS and len(thing) == 2


class Hearing:
    """What hearers hear who come and go: each place with its count, its letters, its copies and its stays."""

    def __init__(self, up):
        need_ways(up)
        self.ahead = up
        self.root = up.index(None)
        # Only a trial of what happens without counts sets this otherwise.
        self.counted = True
        self.hears = [False for place in up]
        self.counts = [0 for place in up]
        self.served = [{} for place in up]
        self.letter_rows = [[] for place in up]
        self.copy_rows = [[] for place in up]
        self.stay_lists = [[] for place in up]
        self.emitted = 0
        self.letter_sum = 0
        self.copy_sum = 0

    def do(self, deed):
        """Do a deed: None, or the number of an emit."""
        self.need_deed(deed)
        if deed[0] == "emit":
            return self.emit()
        word, place = deed
        if word == "come":
            self.come(place)
        elif word == "go":
            self.go(place)
        elif word == "up":
            self.take_letter(place)
        else:
            self.take_copy(place)
        return None

    def need_deed(self, deed):
        """Refuse what is no deed or can't be done, ahead of any change."""
        if not is_deed(deed):
            raise NoDeed("what was handed in as a deed is none")
        if deed[0] == "emit":
            return
        word, place = deed
        self.need_place(place)
        if word in ("up", "down") and place == self.root:
            raise NoPlace("no letter goes up from the root, and no copy down to it")
        if not self.may_be_done(word, place):
            raise NoDeed("this deed can't be done now")

    def need_place(self, place):
        if not is_within(place, 0, len(self.ahead) - 1):
            raise NoPlace("what was handed in as a place is none of the ways up")

    def may_be_done(self, word, place):
        if word == "come":
            return not self.hears[place]
        if word == "go":
            return self.hears[place]
        if word == "up":
            return len(self.letter_rows[place]) > 0
        return len(self.copy_rows[place]) > 0

    def come(self, place):
        before = self.needed(place)
        self.hears[place] = True
        self.stay_lists[place].append([])
        self.tell_ahead(place, before)

    def go(self, place):
        self.hears[place] = False
        self.tell_ahead(place, True)

    def tell_ahead(self, place, before):
        """Put up a letter where a place has become needed or isn't any more; before tells whether it was."""
        now = self.needed(place)
        if place == self.root or now == before:
            return
        if now:
            self.counts[place] += 1
        self.letter_rows[place].append(("graft" if now else "cut", self.counts[place]))
        self.letter_sum += 1

    def take_letter(self, place):
        """Let the place ahead take the first letter that waits from a place."""
        word, count = self.letter_rows[place].pop(0)
        taker = self.ahead[place]
        before = self.needed(taker)
        if word == "graft":
            self.served[taker][place] = count
        else:
            del self.served[taker][place]
        self.tell_ahead(taker, before)

    def take_copy(self, place):
        """Let a place take the first copy that waits for it, or drop it."""
        number, count = self.copy_rows[place].pop(0)
        # A copy of another count was put down by an earlier graft; behind it numbers may be missing.
        if self.needed(place) and (count == self.counts[place] or not self.counted):
            self.take_number(place, number)

    def take_number(self, place, number):
        if self.hears[place]:
            self.stay_lists[place][-1].append(number)
        for below, count in self.served[place].items():
            self.copy_rows[below].append((number, count))
            self.copy_sum += 1

    def emit(self):
        number = self.emitted
        self.emitted += 1
        self.take_number(self.root, number)
        return number

    def hearers(self):
        """The rising tuple of those that hear."""
        return tuple(place for place in range(len(self.ahead)) if self.hears[place])

    def serves(self, place):
        """The rising tuple of those that a place serves."""
        self.need_place(place)
        return tuple(sorted(self.served[place]))

    def needed(self, place):
        """Whether a place hears or serves anybody."""
        self.need_place(place)
        return self.hears[place] or len(self.served[place]) > 0

    def waiting(self, place):
        """(letters, copies): how many wait at a place."""
        self.need_place(place)
        return (len(self.letter_rows[place]), len(self.copy_rows[place]))

    def stays(self, place):
        """All stays of a place, lists of numbers, the last one still going on where it hears."""
        self.need_place(place)
        return [list(stay) for stay in self.stay_lists[place]]

    def letters(self):
        """How many letters were put up in all."""
        return self.letter_sum

    def copies(self):
        """How many copies were put down in all."""
        return self.copy_sum
