"""Each argument amiss, alone and two at once: which refusal is due, by the kinds of a function's arguments."""

import itertools

from hearkenway.errors import NoDeed, NoNet, NoPlace, NoTree, NoWays
from tests.samples import (
    NET,
    NO_DICTS,
    NO_HEARERS_OF_SIX,
    NO_NETS,
    NO_PLACES_OF_SIX,
    NO_TREES_OF_NET,
    NO_WAYS,
)

NO_COMES_OF_THREE = [
    None,
    0,
    "012",
    [],
    [0, 1, 1],
    {},
    {0: 0, 1: 1, 2: 1},
    (),
    (1,),
    (1, 1),
    (0, 1, 1, 0),
    (0, 0, 3),
    (3, 0, 0),
    (0, 0, 10**30),
    (-1, 1, 1),
    (1, 2, -1),
    (2, 2, 0),
    (1, 1, 2),
    (2, 2, 2),
    (True, 1, 1),
    (0, False, 1),
    (None, 1, 1),
    (0, 1.0, 1),
    (0, "1", 1),
]

# The kinds in the order in which what is amiss of them is refused.
AMISS = {
    "net": (NoNet, [*NO_NETS, (6, ((0, 2, 1, 1), (0, 1, 1, 1)))]),
    "place": (NoPlace, NO_PLACES_OF_SIX),
    "hearers": (NoPlace, NO_HEARERS_OF_SIX),
    "few": (NoPlace, [*NO_HEARERS_OF_SIX, ()]),
    "tree": (NoTree, NO_TREES_OF_NET + NO_DICTS),
    "three ways": (NoWays, [*NO_WAYS, (None, 0, 1, 2), (None,) + (0,) * 7]),
    "manner": (NoDeed, ["", "Counted", "counted ", "count", "bent", b"counted", None, True, 0, ("counted",), ["counted"]]),
    "comes": (NoDeed, NO_COMES_OF_THREE),
    "emits": (NoDeed, [-1, 4, 10**30, True, False, None, "1", 1.0, (1,)]),
    "number": (NoDeed, [-1, 13, 10**30, True, False, None, "1", 1.0, (1,)]),
}
RANKS = [NoNet, NoWays, NoPlace, NoTree, NoDeed]
GOOD = {
    "net": NET,
    "place": 0,
    "hearers": (1, 3),
    "few": (1, 3),
    "tree": {1: 0, 3: 1},
    "three ways": (None, 0, 1),
    "manner": "uncounted",
    "comes": (0, 1, 2),
    "emits": 2,
    "number": 3,
}


def check_refusals(test, ask, kinds):
    """kinds names the kind of each argument, or is the argument itself, in a list of one, where nothing refuses it."""
    good = [GOOD[kind] if isinstance(kind, str) else kind[0] for kind in kinds]
    refused = [at for at, kind in enumerate(kinds) if isinstance(kind, str)]
    ask(*good)
    for at in refused:
        error, samples = AMISS[kinds[at]]
        for sample in samples:
            with test.subTest((ask.__name__, at, repr(sample))), test.assertRaises(error):
                ask(*good[:at], sample, *good[at + 1 :])
    for one, other in itertools.combinations(refused, 2):
        due = min(AMISS[kinds[one]][0], AMISS[kinds[other]][0], key=RANKS.index)
        for first, second in itertools.product(AMISS[kinds[one]][1][-6:], AMISS[kinds[other]][1][-6:]):
            handed = list(good)
            handed[one], handed[other] = first, second
            with test.subTest((ask.__name__, one, other, repr(first), repr(second))), test.assertRaises(due):
                ask(*handed)
