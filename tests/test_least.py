"""Point 20: the least waits."""

import unittest

from redopages.errors import MutualWait
from redopages.judge import dangers, least_waits, wrong_run
from redopages.kinds import Both, Catalog, Fresh, Kind, Made, Read, Renewed
from redopages.store import Store, crash_states
from redopages.waits import Waits
from models import danger_rows, drawn_run, drawn_step, shape_of, wide_catalog
from samples import Dice, books, some_catalog, some_log, some_waits

SPLIT = Catalog([Kind("split", [Both("old", "leaf"), Made("new", "leaf")])])


def mutual(catalog):
    """The names of the kinds with two roles each of which both reads and is derived."""
    return [kind.name for kind in catalog if len([role for role in kind.roles if role.MARK == "rm"]) > 1]


def least_rows(catalog):
    """The dangers between whose roles there is no third one, ascending."""
    rows = danger_rows(catalog)
    return [(kind, first, second) for kind, first, second in rows
            if not any((kind, first, role.name) in rows and (kind, role.name, second) in rows
                       for shape in catalog for role in shape.roles)]


def drawn_catalogs(seed, many, **limits):
    """So many drawn catalogs for which the least waits are defined."""
    dice, found = Dice(seed), []
    while len(found) < many:
        catalog = wide_catalog(dice, **limits)
        if not mutual(catalog):
            found.append(catalog)
    return found


class Least(unittest.TestCase):
    def found(self, catalog, *rows):
        self.assertIs(type(least_waits(catalog)), Waits)
        self.assertEqual(least_waits(catalog).rows, rows)

    def test_all_dangers_where_no_role_both_reads_and_is_derived(self):
        catalog = Catalog([Kind("k", [Read("p", "a"), Renewed("q", "a"), Made("r", "a"), Made("s", "b")])])
        self.found(catalog, ("k", "p", "r"), ("k", "p", "s"), ("k", "q", "r"), ("k", "q", "s"))
        self.found(SPLIT, ("split", "old", "new"))
        self.found(Catalog([]))

    def test_no_third_role_between(self):
        catalog = Catalog([Kind("k", [Read("p", "a"), Renewed("q", "a"), Both("m", "b"), Made("r", "a"),
                                      Made("s", "b"), Read("t", "c")])])
        self.found(catalog, ("k", "m", "r"), ("k", "m", "s"), ("k", "p", "m"), ("k", "q", "m"))

    def test_a_first_role_whose_group_is_not_made_leads_nowhere(self):
        catalog = Catalog([Kind("k", [Read("p", "x"), Both("m", "b"), Made("r", "c")])])
        self.found(catalog, ("k", "m", "r"))

    def test_a_third_role_of_another_kind_does_not_count(self):
        catalog = Catalog([Kind("k", [Read("p", "a"), Made("r", "a")]),
                           Kind("l", [Read("p", "a"), Both("m", "a"), Made("r", "a")])])
        self.found(catalog, ("k", "p", "r"), ("l", "m", "r"), ("l", "p", "m"))

    def test_books(self):
        self.found(books(), *least_rows(books()))
        self.assertLess(len(least_rows(books())), len(danger_rows(books())))

    def test_drawn_catalogs_word_by_word(self):
        for catalog in drawn_catalogs(41, 300, most_kinds=6, most_roles=6):
            before = shape_of(catalog)
            self.found(catalog, *least_rows(catalog))
            self.assertEqual(shape_of(catalog), before)

    def test_safe_but_not_without_any_one(self):
        for catalog in [SPLIT, books(), *drawn_catalogs(42, 150, most_roles=6)]:
            least = least_waits(catalog)
            self.assertIsNone(wrong_run(catalog, least))
            for row in least:
                self.assertIsNotNone(wrong_run(catalog, least - Waits([row])))

    def test_safe_with_any_other_waits_added(self):
        dice = Dice(43)
        for catalog in [SPLIT, books(), *drawn_catalogs(44, 150, most_roles=6)]:
            for _ in range(3):
                more = some_waits(dice, catalog, of=2 + dice.below(4))
                self.assertIsNone(wrong_run(catalog, least_waits(catalog) | more))

    def test_flushes_that_safe_waits_allow_are_allowed(self):
        dice, fewer, flushes = Dice(45), 0, 0
        for catalog in drawn_catalogs(46, 200):
            waits = some_waits(dice, catalog, of=2 + dice.below(3))
            waits = waits if wrong_run(catalog, waits) is None else waits | dangers(catalog)
            least = least_waits(catalog)
            fewer += not least.within(waits)
            one, other = Store(catalog, waits), Store(catalog, least)
            for _ in range(15):
                steps = len(one.log)
                drawn_step(dice, one)
                for number in range(steps + 1, len(one.log) + 1):
                    other.do(one.log[number].kind.name, one.log[number].pages)
                ready = list(one.ready())
                if ready:
                    page = dice.one_of(ready)
                    flushes += 1
                    self.assertEqual(one.flush(page), other.flush(page))
        self.assertGreater(fewer, 10)
        self.assertGreater(flushes, 500)

    def test_disks_that_safe_waits_allow_are_allowed(self):
        dice = Dice(47)
        for _ in range(80):
            catalog = some_catalog(dice)
            waits = some_waits(dice, catalog, of=2)
            if not mutual(catalog) and wrong_run(catalog, waits) is None:
                log = some_log(dice, catalog)
                least = list(crash_states(log, least_waits(catalog)))
                self.assertEqual([row for row in crash_states(log, waits) if row not in least], [])

    def test_pages_do_not_block_one_another_in_one_step(self):
        dice = Dice(48)
        for catalog in drawn_catalogs(49, 60, most_roles=6):
            least = least_waits(catalog)
            for kind in catalog:
                for role in kind.roles:
                    self.assertFalse(least.blocked(kind.name, role.name))
            store = drawn_run(dice, catalog, least, events=1)
            self.assertEqual(store.stuck(), [])


class Mutual(unittest.TestCase):
    def raised(self, catalog):
        with self.assertRaises(MutualWait) as caught:
            least_waits(catalog)
        return caught.exception.kind

    def test_two_roles_that_both_read_and_are_derived(self):
        swap = [Both("a", "leaf"), Both("b", "node")]
        self.assertEqual(self.raised(Catalog([Kind("swap", swap)])), "swap")
        more = [Made("x", "leaf"), swap[1], Read("y", "leaf"), swap[0], Both("z", "leaf")]
        self.assertEqual(self.raised(Catalog([*SPLIT, Kind("more", more)])), "more")

    def test_the_first_kind_in_the_order_of_the_catalog(self):
        swap = [Both("a", "leaf"), Both("b", "node")]
        kinds = [Kind("split", SPLIT.kinds[0].roles), Kind("z", swap), Kind("b", swap), Kind("a", swap)]
        for at in range(4):
            self.assertEqual(self.raised(Catalog(kinds[at:] + kinds[:at])), ["z", "z", "b", "a"][at])

    def test_one_such_role_is_not_enough(self):
        for shape in (Read, Made, Fresh, Renewed):
            least_waits(Catalog([Kind("k", [Both("a", "leaf"), shape("b", "leaf"), shape("c", "leaf")])]))
        least_waits(Catalog([Kind("k", [Both("a", "leaf")]), Kind("l", [Both("a", "leaf")])]))

    def test_drawn_catalogs(self):
        dice, many = Dice(50), 0
        for _ in range(200):
            catalog = wide_catalog(dice, most_roles=6)
            if mutual(catalog):
                many += 1
                before = shape_of(catalog)
                self.assertEqual(self.raised(catalog), mutual(catalog)[0])
                self.assertEqual(shape_of(catalog), before)
        self.assertGreater(many, 40)


if __name__ == "__main__":
    unittest.main()
