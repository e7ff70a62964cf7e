"""Points 12, 14, 15, 18 and 19: runs after which redo is not right, where the waits are not safe."""

import unittest

from redopages.errors import Broken
from redopages.judge import dangers, exposed, wrong_run
from redopages.kinds import Both, Catalog, Fresh, Kind, Made, Read, Renewed
from redopages.logs import Contents
from redopages.redo import check
from redopages.store import Store, crash_states
from redopages.waits import Waits
from models import disk_from, exposed_rows, shape_of, short_logs, valid_waits, wide_catalog
from samples import Dice, books, some_catalog, some_waits, why_wrong

SPLIT = Catalog([Kind("split", [Both("old", "leaf"), Made("new", "leaf")])])


class Wrong(unittest.TestCase):
    def goes_wrong(self, catalog, waits):
        """Check that the run keeps what is promised for it, and return it."""
        run = wrong_run(catalog, Waits(waits))
        self.assertIs(type(run), list)
        for event in run:
            self.assertIs(type(event), tuple)
            self.assertIn(event[0], ("do", "flush"))
            self.assertIs(type(event[-1]), tuple)
        self.assertIn(len([event for event in run if event[0] == "do"]), (1, 2))
        store = Store(catalog, Waits(waits))
        self.assertEqual(store.play(run), len(run))
        with self.assertRaises(Broken):
            check(store.log, store.crash(), Contents())
        self.assertIsNotNone(why_wrong(store.log, store.crash()))
        return run

    def test_the_example_of_the_document(self):
        run = self.goes_wrong(SPLIT, [])
        self.assertEqual(len(run), 2)
        contents, store = Contents(), Store(SPLIT, Waits([]))
        store.play(run)
        with self.assertRaises(Broken) as caught:
            check(store.log, store.disk, contents)
        self.assertRegex(contents.text(caught.exception.due), r"\A1\.new\(leaf:[0-9]+\)\Z")
        self.assertRegex(contents.text(caught.exception.found), r"\A1\.new\(1\.old\(leaf:[0-9]+\)\)\Z")

    def test_none_for_safe_waits(self):
        for catalog, waits in [(Catalog([]), []), (SPLIT, [("split", "old", "new")]),
                               (SPLIT, [("split", "old", "new"), ("split", "new", "old")]),
                               (Catalog([Kind("put", [Fresh("to", "a")])]), []),
                               (Catalog([Kind("look", [Read("from", "a"), Made("to", "b")])]), []),
                               (books(), dangers(books()).rows), (books(), valid_waits(books()))]:
            self.assertIsNone(wrong_run(catalog, Waits(waits)))

    def test_a_first_role_that_makes(self):
        for shape in (Both, Renewed):
            catalog = Catalog([Kind("k", [Made("y", "b"), shape("x", "a"), Fresh("z", "a"), Read("u", "c")])])
            for waits in ([], [("k", "x", "z")], [("k", "y", "x")], [("k", "u", "y")]):
                run = self.goes_wrong(catalog, waits)
                self.assertEqual([event[:2] for event in run if event[0] == "do"], [("do", "k")])
            self.assertIsNone(wrong_run(catalog, Waits([("k", "x", "z"), ("k", "z", "y")])))

    def test_a_first_role_that_only_reads_beside_another_kind(self):
        look = Kind("look", [Read("from", "a"), Made("to", "b"), Read("by", "a")])
        for shape in (Made, Fresh, Both, Renewed):
            for kinds in ([look, Kind("put", [Read("by", "c"), shape("to", "a")])],
                          [Kind("put", [shape("to", "a"), Fresh("on", "b")]), look]):
                run = self.goes_wrong(Catalog(kinds), [])
                self.assertEqual([event[1] for event in run if event[0] == "do"], ["look", "put"])

    def test_a_first_role_that_only_reads_beside_the_same_kind(self):
        copy = Catalog([Kind("copy", [Read("from", "a"), Made("to", "a")])])
        run = self.goes_wrong(copy, [])
        self.assertEqual([event[1] for event in run if event[0] == "do"], ["copy", "copy"])
        self.assertIsNone(wrong_run(copy, Waits([("copy", "from", "to")])))
        more = Catalog([Kind("copy", [Read("from", "a"), Made("to", "b"), Fresh("log", "a")])])
        self.goes_wrong(more, [])
        self.goes_wrong(more, [("copy", "from", "log")])
        self.goes_wrong(more, [("copy", "log", "to")])
        self.assertIsNone(wrong_run(more, Waits([("copy", "from", "log"), ("copy", "log", "to")])))

    def test_the_second_step_takes_a_role_that_is_not_blocked(self):
        look = Kind("look", [Read("from", "a"), Made("to", "b")])
        ring = Kind("ring", [Fresh("p", "a"), Fresh("q", "a"), Fresh("r", "a"), Fresh("s", "a")])
        waits = [("ring", "p", "q"), ("ring", "q", "p"), ("ring", "r", "p")]
        run = self.goes_wrong(Catalog([look, ring]), waits)
        self.assertEqual(run[1][2][3], run[0][2][0])
        self.assertIsNone(wrong_run(Catalog([look, ring]), Waits([*waits, ("ring", "s", "r")])))
        run = self.goes_wrong(Catalog([look, ring, Kind("put", [Fresh("to", "a")])]), [*waits, ("ring", "s", "r")])
        self.assertEqual([event[1] for event in run if event[0] == "do"], ["look", "put"])

    def test_chains_of_waits_that_are_flushed_first(self):
        catalog = Catalog([Kind("k", [Made("z", "e"), Both("x", "a"), Fresh("p", "a"), Fresh("q", "c"),
                                      Made("r", "d"), Fresh("s", "b")])])
        chain = [("k", "x", "p"), ("k", "p", "q"), ("k", "q", "r"), ("k", "r", "s"), ("k", "x", "s"), ("k", "x", "q"),
                 ("k", "z", "x")]
        run = self.goes_wrong(catalog, chain)
        self.assertEqual(len(run), 6)
        self.assertIsNone(wrong_run(catalog, Waits([*chain[:-1], ("k", "s", "z")])))

    def test_chains_of_waits_in_both_steps(self):
        catalog = Catalog([
            Kind("look", [Read("x", "a"), Made("y", "a"), Fresh("p", "a"), Fresh("q", "a")]),
            Kind("put", [Fresh("u", "a"), Renewed("v", "a"), Both("w", "a"), Fresh("z", "a")]),
        ])
        waits = [("look", "x", "p"), ("look", "p", "q"), ("look", "y", "q"), ("look", "q", "x")]
        with self.assertRaises(ValueError):
            wrong_run(catalog, Waits(waits))
        waits = [*waits[:-1], ("put", "u", "v"), ("put", "v", "w"), ("put", "w", "z")]
        run = self.goes_wrong(catalog, waits)
        self.assertLessEqual(len(run), 2 + 7)

    def test_one_danger_among_safe_ones(self):
        rows = dangers(books()).rows
        for row in rows:
            waits = [other for other in rows if other != row]
            if exposed_rows(books(), waits):
                self.assertEqual(exposed_rows(books(), waits), [row])
                run = self.goes_wrong(books(), waits)
                self.assertEqual(run[0][1], row[0])
            else:
                self.assertIsNone(wrong_run(books(), Waits(waits)))

    def test_drawn_catalogs_and_waits(self):
        dice, seen = Dice(21), [0, 0]
        for _ in range(600):
            catalog = wide_catalog(dice, most_kinds=4, most_roles=6)
            before = shape_of(catalog)
            waits = some_waits(dice, catalog, of=2 + dice.below(5))
            rows = waits.rows
            if exposed_rows(catalog, rows):
                self.goes_wrong(catalog, rows)
                seen[0] += 1
            else:
                self.assertIsNone(wrong_run(catalog, waits))
                seen[1] += 1
            self.assertEqual(len(exposed(catalog, waits)) == 0, wrong_run(catalog, waits) is None)
            self.assertEqual((shape_of(catalog), waits.rows), (before, rows))
        self.assertGreater(min(seen), 100)

    def test_none_exactly_if_redo_is_right_after_all_runs_of_two_steps(self):
        dice, seen = Dice(22), [0, 0]
        for _ in range(120):
            catalog = some_catalog(dice, most_roles=2 + dice.below(2))
            waits = some_waits(dice, catalog, of=1 + dice.below(3))
            wrong = False
            for log in short_logs(catalog):
                for stamps in crash_states(log, waits):
                    wrong = wrong or why_wrong(log, disk_from(log, stamps)) is not None
                if wrong:
                    break
            self.assertEqual(wrong_run(catalog, waits) is not None, wrong)
            seen[wrong] += 1
        self.assertGreater(min(seen), 5)

    def test_a_new_list_each_time(self):
        wrong_run(SPLIT, Waits([])).clear()
        self.assertEqual(len(wrong_run(SPLIT, Waits([]))), 2)

    def test_kinds_of_six_roles_over_eight_groups(self):
        groups = list("abcdefgh")
        kinds = [Kind(group * 2, [Read("r", group), *[Fresh(role, groups[at]) for at, role in enumerate("pqst")],
                                  Made("m", groups[7 - at])]) for at, group in enumerate(groups)]
        chain = [(kind.name, first, second) for kind in kinds for first, second in ["rp", "pq", "qs", "st"]]
        run = self.goes_wrong(Catalog(kinds), chain)
        self.assertEqual(len([event for event in run if event[0] == "do"]), 2)
        ends = [(kind.name, "t", "m") for kind in kinds]
        self.assertIsNone(wrong_run(Catalog(kinds), Waits(chain + ends)))
        for at in range(8):
            run = self.goes_wrong(Catalog(kinds), chain + ends[:at] + ends[at + 1:])
            self.assertEqual(run[0][1], groups[at] * 2)


if __name__ == "__main__":
    unittest.main()
