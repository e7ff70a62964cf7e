"""Point 21: logs after which pages are stuck, where the web of the waits has a cycle."""

import unittest

from redopages.judge import least_waits, sticking_log
from redopages.kinds import Both, Catalog, Fresh, Kind, Made, Read, Renewed
from redopages.store import Store
from redopages.waits import Waits
from models import drawn_run, drawn_step, edges_by_word, has_cycle, shape_of, wide_catalog
from samples import SHAPES, Dice, books, some_waits, stuck_after

SPLIT = Catalog([Kind("split", [Both("old", "leaf"), Made("new", "leaf")])])


class Sticking(unittest.TestCase):
    def sticks(self, catalog, waits, most=9):
        """Check that the log keeps what is promised for it, and return its length."""
        events = sticking_log(catalog, Waits(waits))
        self.assertIs(type(events), list)
        self.assertLessEqual(1, len(events))
        self.assertLessEqual(len(events), most)
        for event in events:
            self.assertIs(type(event), tuple)
            self.assertEqual((event[0], type(event[2]), len(event)), ("do", tuple, 3))
        store = Store(catalog, Waits(waits))
        self.assertEqual(store.play(events), len(events))
        self.assertEqual(store.stuck(), stuck_after(list(store.log), Waits(waits),
                                                    {page: 0 for page in store.log.all_pages()}))
        self.assertNotEqual(store.stuck(), [])
        return len(events)

    def test_an_edge_from_a_group_to_itself(self):
        self.sticks(SPLIT, [("split", "old", "new")])
        self.sticks(SPLIT, [("split", "new", "old")])
        for first in SHAPES:
            for second in (Made, Fresh, Both, Renewed):
                catalog = Catalog([Kind("k", [first("x", "a"), Read("u", "a"), second("y", "a"), Fresh("z", "b")])])
                self.sticks(catalog, [("k", "x", "y")])
                self.assertIsNone(sticking_log(catalog, Waits([("k", "x", "z")])))

    def test_waits_that_form_a_cycle_in_a_kind(self):
        catalog = Catalog([Kind("swap", [Both("a", "leaf"), Both("b", "node")])])
        self.sticks(catalog, [("swap", "a", "b"), ("swap", "b", "a")])
        self.assertIsNone(sticking_log(catalog, Waits([("swap", "a", "b")])))

    def test_cycles_over_two_to_eight_groups(self):
        for many in range(2, 9):
            for first in SHAPES:
                for second in (Made, Both):
                    groups = "abcdefgh"[:many]
                    kinds = [Kind(group, [second("to", groups[(at + 1) % many]), first("from", group)])
                             for at, group in enumerate(groups)]
                    waits = [(group, "from", "to") for group in groups]
                    self.sticks(Catalog(kinds), waits)
                    for at in range(many):
                        self.assertIsNone(sticking_log(Catalog(kinds), Waits(waits[:at] + waits[at + 1:])))

    def test_a_cycle_over_eight_groups_with_kinds_of_six_roles(self):
        groups = "abcdefgh"
        kinds = [Kind(group, [Read("p", group), Fresh("q", group), Read("from", groups[at - 1]), Made("to", group),
                              Renewed("r", groups[at - 1]), Both("s", groups[at - 2])])
                 for at, group in enumerate(groups)]
        self.sticks(Catalog(kinds), [(group, "from", "to") for group in groups])
        self.sticks(Catalog(kinds), [(group, "to", "s") for group in groups])

    def test_a_cycle_behind_and_before_other_edges(self):
        kinds = [Kind(start + end, [Read("from", start), Made("to", end)])
                 for start, end in ["ab", "bc", "cd", "de", "ec", "ef", "fg", "ag"]]
        waits = [(kind.name, "from", "to") for kind in kinds]
        self.assertEqual(self.sticks(Catalog(kinds), waits, most=4), 4)
        self.assertIsNone(sticking_log(Catalog(kinds), Waits([row for row in waits if row[0] != "ec"])))

    def test_one_kind_over_several_groups(self):
        catalog = Catalog([Kind("k", [Both("x", "a"), Both("y", "b"), Both("z", "c"), Made("u", "a")])])
        self.sticks(catalog, [("k", "x", "y"), ("k", "y", "z"), ("k", "z", "u")])
        self.assertIsNone(sticking_log(catalog, Waits([("k", "x", "y"), ("k", "y", "z"), ("k", "u", "z")])))

    def test_none_without_waits(self):
        for catalog in (Catalog([]), SPLIT, books()):
            self.assertIsNone(sticking_log(catalog, Waits([])))

    def test_least_waits_let_pages_stick_where_a_danger_stays_in_one_group(self):
        self.sticks(SPLIT, least_waits(SPLIT).rows)
        self.sticks(books(), least_waits(books()).rows)

    def test_none_exactly_if_the_web_has_no_cycle(self):
        dice, seen = Dice(61), [0, 0]
        for _ in range(600):
            catalog = wide_catalog(dice, most_kinds=5, groups=["a", "b", "c", "d", "e", "f"])
            before = shape_of(catalog)
            waits = some_waits(dice, catalog, of=2 + dice.below(8))
            rows = waits.rows
            if has_cycle(edges_by_word(catalog, rows)):
                self.sticks(catalog, rows)
                seen[0] += 1
            else:
                self.assertIsNone(sticking_log(catalog, waits))
                seen[1] += 1
            self.assertEqual((shape_of(catalog), waits.rows), (before, rows))
        self.assertGreater(min(seen), 150)

    def test_a_new_list_each_time(self):
        waits = Waits([("split", "old", "new")])
        length = len(sticking_log(SPLIT, waits))
        sticking_log(SPLIT, waits).clear()
        self.assertEqual(len(sticking_log(SPLIT, waits)), length)


class NeverStuck(unittest.TestCase):
    def test_no_page_is_stuck_after_any_run_and_all_can_be_flushed(self):
        dice, many = Dice(62), 0
        for _ in range(200):
            catalog = wide_catalog(dice, most_kinds=4, groups=["a", "b", "c", "d", "e"])
            waits = some_waits(dice, catalog, of=3 + dice.below(4))
            if sticking_log(catalog, waits) is None and len(waits) > 0:
                many += 1
                store = drawn_run(dice, catalog, waits, events=25)
                self.assertEqual(store.stuck(), [])
                while store.dirty:
                    ready = list(store.ready())
                    self.assertNotEqual(ready, [])
                    store.flush(dice.one_of(ready))
                self.assertEqual((store.dirty, store.stuck()), ([], []))
        self.assertGreater(many, 30)

    def test_drawn_runs_stick_only_where_there_is_a_log_for_it(self):
        dice, seen = Dice(63), [0, 0]
        for _ in range(150):
            catalog = wide_catalog(dice, most_kinds=2, most_roles=3, groups=["a", "b"])
            waits = some_waits(dice, catalog, of=3)
            store = Store(catalog, waits)
            for _ in range(12):
                drawn_step(dice, store, numbers=2)
            if sticking_log(catalog, waits) is None:
                self.assertEqual(store.stuck(), [])
            seen[len(store.stuck()) > 0] += 1
        self.assertGreater(min(seen), 10)


if __name__ == "__main__":
    unittest.main()
