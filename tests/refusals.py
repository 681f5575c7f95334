"""Each argument amiss, alone and two at once: which refusal is due, by the kinds of a function's arguments."""

import itertools

from hearkenway.errors import NoNet, NoPlace, NoTree
from tests.samples import NET, NO_DICTS, NO_HEARERS_OF_SIX, NO_NETS, NO_PLACES_OF_SIX, NO_TREES_OF_NET

# The kinds in the order in which what is amiss of them is refused.
AMISS = {
    "net": (NoNet, [*NO_NETS, (6, ((0, 2, 1, 1), (0, 1, 1, 1)))]),
    "place": (NoPlace, NO_PLACES_OF_SIX),
    "hearers": (NoPlace, NO_HEARERS_OF_SIX),
    "few": (NoPlace, [*NO_HEARERS_OF_SIX, ()]),
    "tree": (NoTree, NO_TREES_OF_NET + NO_DICTS),
}
RANKS = [NoNet, NoPlace, NoTree]
GOOD = {"net": NET, "place": 0, "hearers": (1, 3), "few": (1, 3), "tree": {1: 0, 3: 1}}


def check_refusals(test, ask, kinds):
    """kinds names the kind of each argument, or is the argument itself, in a list of one, where nothing refuses it."""
    good = [GOOD[kind] if isinstance(kind, str) else kind[0] for kind in kinds]
    refused = [at for at, kind in enumerate(kinds) if isinstance(kind, str)]
    ask(*good)
    for at in refused:
        error, samples = AMISS[kinds[at]]
        for sample in samples:
            with test.subTest((ask.__name__, at, repr(sample))), test.assertRaises(error):
                ask(*good[:at], sample, *good[at + 1 :])
    for one, other in itertools.combinations(refused, 2):
        due = min(AMISS[kinds[one]][0], AMISS[kinds[other]][0], key=RANKS.index)
        for first, second in itertools.product(AMISS[kinds[one]][1][-6:], AMISS[kinds[other]][1][-6:]):
            handed = list(good)
            handed[one], handed[other] = first, second
            with test.subTest((ask.__name__, one, other, repr(first), repr(second))), test.assertRaises(due):
                ask(*handed)
