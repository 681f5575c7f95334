"""Points 1 to 3 over the whole program: what one stage tells is handed in to another."""

import ast
import copy
import pathlib
import random
import subprocess
import sys
import unittest

from hearkenway.bargains import bargains, cheapest_within, way_for
from hearkenway.bent import tried
from hearkenway.cheapest import cheapest, shows
from hearkenway.desk import Desk
from hearkenway.early import are_earliest, earliest, is_closed, ways
from hearkenway.everywhere import everywhere, shows_everywhere
from hearkenway.grafts import are_prices, cut, graft
from hearkenway.hearing import Hearing, are_ways
from hearkenway.moments import first_moments, heard
from hearkenway.nets import is_tree, is_trim, lateness, price
from hearkenway.nettexts import read_net, show_net
from hearkenway.ontime import cheapest_on_time, is_on_time, on_time
from hearkenway.roots import is_send, mend, next_root, send_net
from hearkenway.weaving import at_rest, played
from tests.oracles import mixed_nets, reached_from, some_hearers
from tests.samples import NET
from tests.slow_hearing import drawn_ways

PROJECT = pathlib.Path(__file__).parent.parent


def up_of_tree(net, root, ahead):
    """(names, up, late): a tree's places named anew from 0 on, as ways up with their latenesses."""
    names = sorted({root, *ahead})
    lates = {(i, j): late for i, j, price, late in net[1]}
    up = tuple(None if place == root else names.index(ahead[place]) for place in names)
    late = tuple(0 if place == root else lates[ahead[place], place] for place in names)
    return names, up, late


def small_trees(seed):
    """Nets, roots, hearers and trees of at most eight places of each kind that is told."""
    for turn, net in enumerate(mixed_nets(seed, 7, 40, 9, 30)):
        root = turn % 7
        reached = sorted(reached_from(net, root))
        hearers = tuple(place for place in some_hearers(seed + turn, 7, 5) if place in reached) or (root,)
        yield net, root, hearers, cheapest(net, root, hearers)[1]
        yield net, root, hearers, cheapest_on_time(net, root, hearers)[1]
        yield net, root, tuple(reached), ways(net, root)
        yield net, root, tuple(reached), everywhere(net, root)[0]


class TreesAsWaysUpTest(unittest.TestCase):
    def test_what_is_emitted_is_heard_as_late_as_the_tree_tells(self):
        for net, root, hearers, ahead in small_trees(500):
            names, up, late = up_of_tree(net, root, ahead)
            self.assertIs(are_ways(up), True)
            told = lateness(net, root, ahead)
            comes = [(0, ("come", names.index(place))) for place in hearers]
            stays = heard(up, late, [*comes, (1000, ("emit",)), (1003, ("emit",))])
            for at, place in enumerate(names):
                due = [[(0, 1000 + told[place]), (1, 1003 + told[place])]] if place in hearers else []
                self.assertEqual(stays[at], due)

    def test_on_time_each_hears_as_early_as_can_be(self):
        for turn, net in enumerate(mixed_nets(510, 7, 40, 9, 30)):
            hearers = some_hearers(turn, 7, 6)
            told = cheapest_on_time(net, 0, hearers)
            if told[0] == "tree":
                names, up, late = up_of_tree(net, 0, told[1])
                comes = [(0, ("come", names.index(place))) for place in hearers]
                stays = heard(up, late, [*comes, (999, ("emit",))])
                least = earliest(net, 0)
                for place in hearers:
                    self.assertEqual(stays[names.index(place)], [[(0, 999 + least[place])]])

    def test_a_trim_tree_is_just_what_is_served_at_rest(self):
        for net, root, hearers, ahead in small_trees(520):
            names, up, late = up_of_tree(net, root, ahead)
            served = at_rest(up, [("come", names.index(place)) for place in hearers])
            grown = {names[below]: names[at] for at, row in served.items() for below in row}
            self.assertEqual(grown, cut(net, root, hearers, ahead))
            self.assertIs(is_trim(net, root, hearers, grown), True)

    def test_copies_of_a_number_are_as_many_as_the_tree_has_roads(self):
        for net, root, hearers, ahead in small_trees(530):
            names, up, late = up_of_tree(net, root, ahead)
            hearing = Hearing(up)
            for place in hearers:
                hearing.do(("come", names.index(place)))
            while any(hearing.waiting(at)[0] for at in range(len(up))):
                hearing.do(("up", next(at for at in range(len(up)) if hearing.waiting(at)[0])))
            hearing.do(("emit",))
            while any(hearing.waiting(at)[1] for at in range(len(up))):
                hearing.do(("down", next(at for at in range(len(up)) if hearing.waiting(at)[1])))
            self.assertEqual(hearing.copies(), len(cut(net, root, hearers, ahead)))

    def test_one_grafted_later_hears_from_its_first_moment_on(self):
        for net, root, hearers, ahead in list(small_trees(540))[::3]:
            for place in sorted(reached_from(net, root) - {root, *ahead})[:1]:
                grown, total, numbers = graft(net, root, ahead, place)
                names, up, late = up_of_tree(net, root, grown)
                comes = {names.index(at): 0 for at in hearers}
                comes[names.index(place)] = 400
                first = first_moments(up, late, comes)[names.index(place)]
                emits = [max(400, first - 1), max(400, first), first + 500]
                events = [(moment, ("come", at)) for at, moment in comes.items()]
                stays = heard(up, late, [*events, *((moment, ("emit",)) for moment in emits)])
                due = lateness(net, root, grown)[place]
                expected = [(number, moment + due) for number, moment in enumerate(emits) if moment >= first]
                self.assertEqual(stays[names.index(place)], [expected])


class FallTest(unittest.TestCase):
    def test_what_is_mended_behind_a_fall_of_a_hearings_places(self):
        dice = random.Random(55)
        words = []
        for net, root, hearers, ahead in small_trees(550):
            names, up, late = up_of_tree(net, root, ahead)
            kept, emitted = self.fallen(dice, names, up, root, hearers)
            row = dice.sample(range(7), 7)
            place, number = next_root(kept, row) or (None, None)
            self.assertEqual(place, next((at for at in row if at in kept), None))
            if place is None:
                continue
            self.assertLessEqual(number, emitted)
            wants = {at: tuple(range(number)) for at in sorted(set(hearers) & set(kept))[:6]}
            told = mend(net, kept, wants)
            words.append(told[0])
            if told[0] == "mended":
                self.check_mended(net, kept, wants, *told[1:])
            else:
                self.assertIs(is_closed(send_net(net, kept, told[1]), net[0], (*told[2], net[0])), True)
        self.assertGreater(words.count("mended"), 30)
        self.assertGreater(words.count("parted"), 3)

    def fallen(self, dice, names, up, root, hearers):
        """What those that stand heard, when the root and some others fall amid numbers that are under way."""
        hearing = Hearing(up)
        for place in hearers:
            hearing.do(("come", names.index(place)))
        for turn in range(80):
            deeds = [("up", at) for at in range(len(up)) if hearing.waiting(at)[0]]
            deeds += [("down", at) for at in range(len(up)) if hearing.waiting(at)[1]] * 3
            hearing.do(dice.choice([*deeds, ("emit",)]))
        standing = [place for place in range(7) if place != root and dice.random() < 0.85]
        kept = {}
        for place in standing:
            stays = hearing.stays(names.index(place)) if place in names else []
            kept[place] = tuple(number for stay in stays for number in stay)
        return kept, hearing.do(("emit",))

    def check_mended(self, net, kept, wants, sends, lost):
        """Sent once to each that lacks it, from one that keeps it, and what nobody kept is told."""
        for number, ahead in sends.items():
            self.assertIs(is_send(net, kept, wants, number, ahead), True)
        for place, numbers in wants.items():
            got = set(kept[place]) | {number for number, ahead in sends.items() if place in ahead} | set(lost)
            self.assertLessEqual(set(numbers), got)
        self.assertFalse({number for numbers in kept.values() for number in numbers} & set(lost))

    def test_a_send_is_shown_by_its_table(self):
        kept, wants = {0: (3,), 1: (), 3: (), 4: ()}, {3: (3,), 4: (3,)}
        word, sends, lost = mend(NET, kept, wants)
        table = cheapest(send_net(NET, kept, 3), 6, (3, 4))[2]
        total = sum(p for i, j, p, late in NET[1] if sends[3].get(j) == i)
        self.assertIs(shows(send_net(NET, kept, 3), 6, (3, 4), table, total), True)
        self.assertIs(shows(send_net(NET, kept, 3), 6, (3, 4), table, total + 1), False)


class EachAnswerIsShownTest(unittest.TestCase):
    def test_on_drawn_nets(self):
        for turn, net in enumerate(mixed_nets(560, 8, 40, 20, 20)):
            net = read_net(show_net(net))
            hearers = some_hearers(turn, 8, 6)
            self.assertIs(are_earliest(net, 0, earliest(net, 0)), True)
            told, timely = cheapest(net, 0, hearers), cheapest_on_time(net, 0, hearers)
            self.assertEqual(told[0], timely[0])
            if told[0] == "none":
                self.assertIs(is_closed(net, 0, told[1]) and is_closed(net, 0, timely[1]), True)
                continue
            least, most = price(net, 0, told[1]), price(net, 0, timely[1])
            self.assertLessEqual(least, most)
            self.assertIs(shows(net, 0, hearers, told[2], least), True)
            self.assertIs(shows(on_time(net, 0), 0, hearers, timely[2], most), True)
            self.assertIs(is_on_time(net, 0, hearers, timely[1]), True)
            self.check_all_places(net, least)

    def check_all_places(self, net, least):
        ahead, weights = everywhere(net, 0)
        whole = price(net, 0, ahead)
        self.assertLessEqual(least, whole)
        self.assertIs(shows_everywhere(net, 0, weights, whole), True)
        self.assertIs(is_tree(net, 0, ahead) and are_prices(net, 0, ahead, graft(net, 0, ahead, 0)[2]), True)
        for place, row in bargains(net, 0).items():
            self.assertEqual(row[-1][1], earliest(net, 0)[place])
            self.assertEqual(cheapest_within(net, 0, place, row[0][1])[0], row[0][0])
            self.assertIsNotNone(way_for(net, 0, place, row[0]))

    def test_a_desk_tells_what_the_stages_tell(self):
        for turn, net in enumerate(mixed_nets(570, 7, 20, 20, 20)):
            desk = Desk()
            desk.say("net n\n" + show_net(net))
            ahead = everywhere(net, turn % 7)[0]
            names, up, late = up_of_tree(net, turn % 7, ahead)
            desk.say(" ".join(["ways", "n", *("-" if at is None else str(at) for at in up)]))
            deeds = [("come", len(up) - 1), ("emit",), ("come", 0) if len(up) > 1 else ("go", 0), ("emit",)]
            for deed in deeds:
                desk.say(" ".join([deed[0], "n", *map(str, deed[1:])]))
            for at, stays in played(up, deeds).items():
                expected = " | ".join(",".join(map(str, stay)) for stay in stays) if stays else "none"
                self.assertEqual(desk.say(f"stays n {at}"), expected)


class NothingElseTest(unittest.TestCase):
    def test_the_package_reads_no_clock_no_chance_and_no_files(self):
        for path in (PROJECT / "hearkenway").glob("*.py"):
            for part in ast.walk(ast.parse(path.read_text())):
                self.assertNotIsInstance(part, ast.Import)
                if isinstance(part, ast.ImportFrom):
                    self.assertTrue(part.module.startswith("hearkenway."))
                if isinstance(part, ast.Name):
                    self.assertNotIn(part.id, ("open", "input", "print", "eval", "exec", "hash", "id", "__import__"))

    def test_the_same_whatever_the_seed_of_hashes(self):
        code = (
            "from tests.test_whole import everything_told\n"
            "print(everything_told())\n"
        )
        told = {self.printed(code, seed) for seed in ("0", "1", "77")}
        self.assertEqual(len(told), 1)

    def printed(self, code, seed):
        ran = subprocess.run(
            [sys.executable, "-c", code],
            cwd=PROJECT,
            env={"PYTHONHASHSEED": seed, "PYTHONPATH": str(PROJECT), "PYTHONDONTWRITEBYTECODE": "1"},
            capture_output=True,
            text=True,
            check=True,
        )
        return ran.stdout

    def test_the_same_is_told_again_when_what_was_told_is_spoilt(self):
        first = everything_told()
        expected = copy.deepcopy(first)
        spoil(first)
        self.assertEqual(everything_told(), expected)


def everything_told():
    """An answer of each function that tells lists or dicts, of a few nets and ways up."""
    told = []
    for net in [NET, *mixed_nets(580, 6, 3, 9, 9)]:
        hearers = tuple(sorted(reached_from(net, 0)))[:4]
        told += [earliest(net, 0), ways(net, 0), cheapest(net, 0, hearers), cheapest_on_time(net, 0, hearers)]
        told += [bargains(net, 0), everywhere(net, 0), graft(net, 0, {}, hearers[-1]), on_time(net, 0)]
        kept = {place: tuple(range(place)) for place in range(6)}
        told += [mend(net, kept, {0: (1, 2), 1: (2, 3, 9)}), send_net(net, kept, 2), next_root(kept, [7, 2])]
    up = drawn_ways(random.Random(1), 6)
    late = tuple(0 if at is None else 3 for at in up)
    deeds = [("come", place) for place in range(6)] + [("emit",)]
    told += [played(up, deeds), at_rest(up, deeds), first_moments(up, late, {2: 0, 3: 1})]
    told += [heard(up, late, [(0, deed) for deed in deeds] + [(40, ("emit",))])]
    told += [list(tried((None, 0), "uncounted", (0, 2), 3, 11))]
    return told


def spoil(thing):
    """Empty all lists and dicts in it."""
    if isinstance(thing, (list, tuple)):
        for part in thing:
            spoil(part)
    if isinstance(thing, dict):
        for part in thing.values():
            spoil(part)
    if isinstance(thing, (list, dict)):
        thing.clear()
