"""Points 16 to 18: dangers, and those that are live and exposed under a lot of waits."""

import unittest

from redopages.judge import dangers, exposed, live
from redopages.kinds import Both, Catalog, Fresh, Kind, Made, Read, Renewed
from redopages.store import crash_states
from redopages.waits import Waits
from models import danger_rows, exposed_rows, live_rows, shape_of, short_logs, valid_waits, wide_catalog
from samples import SHAPES, Dice, books, some_catalog, some_waits

SPLIT = Catalog([Kind("split", [Both("old", "leaf"), Made("new", "leaf")])])


def one_kind(*roles):
    return Catalog([Kind("k", list(roles))])


class Dangers(unittest.TestCase):
    def found(self, catalog, *rows):
        self.assertIs(type(dangers(catalog)), Waits)
        self.assertEqual(dangers(catalog).rows, rows)

    def test_the_example_of_the_document(self):
        self.found(SPLIT, ("split", "old", "new"))

    def test_an_empty_catalog(self):
        self.found(Catalog([]))

    def test_one_role(self):
        for shape in (Made, Fresh, Both, Renewed):
            self.found(one_kind(shape("x", "a")))

    def test_each_pair_of_classes(self):
        for first in SHAPES:
            for second in SHAPES:
                if first is not Read or second is not Read:
                    catalog = one_kind(first("x", "a"), second("y", "a"))
                    rows = []
                    if first in (Read, Both, Renewed) and second in (Made, Both):
                        rows.append(("k", "x", "y"))
                    if second in (Read, Both, Renewed) and first in (Made, Both):
                        rows.append(("k", "y", "x"))
                    self.found(catalog, *rows)

    def test_the_group_of_the_first_role_is_made_somewhere(self):
        look = Kind("look", [Read("from", "a"), Made("to", "b")])
        self.found(Catalog([look]))
        for shape in (Made, Fresh, Both, Renewed):
            self.found(Catalog([look, Kind("put", [shape("to", "a")])]), ("look", "from", "to"))
        self.found(Catalog([look, Kind("put", [Made("to", "c"), Read("by", "a")])]))

    def test_six_roles(self):
        catalog = one_kind(Both("p", "a"), Both("q", "b"), Both("r", "a"), Both("s", "c"), Both("t", "a"),
                           Both("u", "d"))
        self.found(catalog, *sorted(("k", x, y) for x in "pqrstu" for y in "pqrstu" if x != y))
        catalog = one_kind(Read("f", "a"), Renewed("e", "b"), Made("d", "a"), Both("c", "c"), Fresh("b", "d"),
                           Read("a", "d"))
        self.found(catalog, ("k", "a", "c"), ("k", "a", "d"), ("k", "c", "d"), ("k", "e", "c"), ("k", "e", "d"),
                   ("k", "f", "c"), ("k", "f", "d"))

    def test_kinds_in_ascending_order(self):
        roles = [Both("old", "leaf"), Made("new", "leaf")]
        self.found(Catalog([Kind("z", roles), Kind("b", roles), Kind("m", [Fresh("to", "leaf")]), Kind("a", roles)]),
                   ("a", "old", "new"), ("b", "old", "new"), ("z", "old", "new"))

    def test_drawn_catalogs(self):
        dice = Dice(11)
        for _ in range(400):
            catalog = wide_catalog(dice, most_kinds=8, most_roles=6, groups=["a", "b", "c", "d", "e"])
            before = shape_of(catalog)
            self.found(catalog, *danger_rows(catalog))
            self.assertEqual(shape_of(catalog), before)

    def test_books(self):
        self.found(books(), *danger_rows(books()))
        self.assertEqual(len(danger_rows(books())), 21)


class LiveAndExposed(unittest.TestCase):
    def found(self, catalog, waits, alive, shown):
        for function, rows in ((live, alive), (exposed, shown)):
            lot = function(catalog, Waits(waits))
            self.assertIs(type(lot), Waits)
            self.assertEqual(lot.rows, tuple(rows))

    def test_without_waits_all_dangers(self):
        dice = Dice(12)
        for catalog in [SPLIT, books(), *[wide_catalog(dice) for _ in range(200)]]:
            self.found(catalog, [], danger_rows(catalog), danger_rows(catalog))

    def test_an_empty_catalog(self):
        self.found(Catalog([]), [], [], [])

    def test_a_wait_against_the_danger(self):
        danger = ("split", "old", "new")
        self.found(SPLIT, [danger], [danger], [])
        self.found(SPLIT, [("split", "new", "old")], [danger], [danger])
        self.found(SPLIT, [danger, ("split", "new", "old")], [], [])

    def test_a_chain_of_waits_is_enough(self):
        catalog = one_kind(Both("x", "a"), Fresh("y", "b"), Made("z", "c"))
        danger = ("k", "x", "z")
        self.found(catalog, [("k", "x", "y"), ("k", "y", "z")], [danger], [])
        self.found(catalog, [("k", "x", "y")], [danger], [danger])
        self.found(catalog, [("k", "y", "z")], [danger], [danger])
        self.found(catalog, [("k", "z", "y"), ("k", "y", "x")], [danger], [danger])

    def test_waits_of_another_kind_do_not_help(self):
        roles = [Both("old", "leaf"), Made("new", "leaf")]
        catalog = Catalog([Kind("k", roles), Kind("l", roles)])
        both = [("k", "old", "new"), ("l", "old", "new")]
        self.found(catalog, [both[0]], both, [both[1]])
        self.found(catalog, [both[1]], both, [both[0]])

    def test_a_first_role_that_reaches_a_cycle(self):
        catalog = one_kind(Renewed("x", "a"), Fresh("y", "b"), Fresh("z", "b"), Made("u", "a"))
        danger, ring = ("k", "x", "u"), [("k", "y", "z"), ("k", "z", "y")]
        self.found(catalog, ring, [danger], [danger])
        self.found(catalog, [*ring, ("k", "x", "z")], [], [])
        self.found(catalog, [*ring, ("k", "z", "x")], [danger], [danger])
        self.found(catalog, [*ring, ("k", "z", "x"), ("k", "x", "u")], [danger], [])
        self.found(catalog, [*ring, ("k", "z", "x"), ("k", "x", "y")], [], [])

    def test_a_second_role_that_is_blocked_leaves_the_danger(self):
        catalog = one_kind(Both("x", "a"), Made("y", "b"), Fresh("z", "b"))
        danger, ring = ("k", "x", "y"), [("k", "y", "z"), ("k", "z", "y")]
        self.found(catalog, ring, [danger], [danger])
        self.found(catalog, [*ring, danger], [], [])

    def test_a_group_that_no_role_makes(self):
        catalog = Catalog([Kind("k", [Read("x", "a"), Made("y", "b")]), Kind("l", [Read("x", "b"), Made("y", "c")])])
        self.found(catalog, [], [("l", "x", "y")], [("l", "x", "y")])
        self.found(catalog, [("l", "x", "y")], [("l", "x", "y")], [])

    def test_a_group_that_is_not_movable(self):
        look = Kind("look", [Read("from", "a"), Made("to", "c")])
        ring = [("ring", "p", "q"), ("ring", "q", "p")]
        danger = ("look", "from", "to")
        blocked = Catalog([look, Kind("ring", [Fresh("p", "a"), Fresh("q", "b")])])
        self.found(blocked, ring, [], [])
        self.found(blocked, ring[:1], [danger], [danger])
        self.found(blocked, [*ring[:1], danger], [danger], [])
        reaching = Catalog([look, Kind("ring", [Fresh("p", "b"), Fresh("q", "b"), Fresh("r", "a")])])
        self.found(reaching, ring, [danger], [danger])
        self.found(reaching, [*ring, ("ring", "r", "q")], [], [])
        self.found(reaching, [*ring, ("ring", "q", "r")], [danger], [danger])
        movable = Catalog([look, Kind("ring", [Fresh("p", "a"), Fresh("q", "b")]), Kind("put", [Fresh("to", "a")])])
        self.found(movable, ring, [danger], [danger])
        reading = Catalog([look, Kind("ring", [Fresh("p", "a"), Fresh("q", "b")]),
                           Kind("use", [Read("by", "a"), Fresh("to", "b")])])
        self.found(reading, ring, [], [])

    def test_drawn_catalogs_and_waits_word_by_word(self):
        dice, kinds_of = Dice(13), set()
        for _ in range(800):
            catalog = wide_catalog(dice, most_kinds=4, most_roles=6)
            before = shape_of(catalog)
            waits = some_waits(dice, catalog, of=2 + dice.below(5))
            rows = waits.rows
            alive, shown = live_rows(catalog, rows), exposed_rows(catalog, rows)
            self.found(catalog, rows, alive, shown)
            self.assertEqual((shape_of(catalog), waits.rows), (before, rows))
            kinds_of.add((len(danger_rows(catalog)) > len(alive) > 0, len(alive) > len(shown) > 0))
        self.assertEqual(len(kinds_of), 4)

    def test_against_all_logs_of_two_steps(self):
        dice, seen = Dice(14), [0, 0, 0]
        for _ in range(60):
            catalog = some_catalog(dice)
            waits = some_waits(dice, catalog, of=2 + dice.below(3))
            moved, shown = set(), set()
            for log in short_logs(catalog):
                for stamps in crash_states(log, waits):
                    disk = dict(zip(log.all_pages(), stamps))
                    for step in log:
                        for kind, first, second in danger_rows(catalog):
                            if kind == step.kind.name and disk[step.page_at(first)] >= step.number:
                                moved.add((kind, first, second))
                                if disk[step.page_at(second)] < step.number:
                                    shown.add((kind, first, second))
            self.found(catalog, waits.rows, sorted(moved), sorted(shown))
            seen = [seen[0] + len(danger_rows(catalog)), seen[1] + len(moved), seen[2] + len(shown)]
        self.assertGreater(seen[0], seen[1])
        self.assertGreater(seen[1], seen[2])
        self.assertGreater(seen[2], 0)

    def test_all_waits_of_large_catalogs(self):
        catalog = Catalog([Kind(name, [Both(role, role) for role in "pqrstu"]) for name in "abcdefgh"])
        rows = valid_waits(catalog)
        self.assertEqual(len(rows), 240)
        self.found(catalog, rows, [], [])
        forward = [row for row in rows if row[1] < row[2]]
        self.found(catalog, forward, rows, [row for row in rows if row[1] > row[2]])


if __name__ == "__main__":
    unittest.main()
