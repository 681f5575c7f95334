"""The refusals: one class for each, all right under HearError, each made of a text."""


class HearError(ValueError):
    """Any refusal of this package."""


class NoNet(HearError):
    """What was handed in as a net is none."""


class NoPlace(HearError):
    """A root, place or hearers that are none."""


class NoTree(HearError):
    """What was handed in as a tree is none."""


class NoWays(HearError):
    """What was handed in as ways up is none."""


class NoDeed(HearError):
    """A deed that is none or can't be done."""


class NoEvents(HearError):
    """Latenesses, events or comes that aren't as told."""


class NoKept(HearError):
    """What is kept or wanted behind a fall isn't as told."""


class TooMany(HearError):
    """More than the limit allows."""


class NoText(HearError):
    """A text that isn't written as a net's."""


class NoRow(HearError):
    """A row that no desk takes."""


class NoName(HearError):
    """A name under which no such thing stands."""
