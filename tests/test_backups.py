"""Points 2, 10 and 24: backups of a store, group by group."""

import unittest

from redopages.backups import Backup
from redopages.errors import BadOrder, Held, OutOfTurn
from redopages.kinds import Both, Catalog, Fresh, Kind, Made
from redopages.logs import Contents
from redopages.redo import check
from redopages.store import Disk, Store
from redopages.waits import Waits
from models import drawn_flush, drawn_step, shape_of, wide_catalog
from samples import Dice, books, disk_of, leaf, node, some_waits, state_of

ORDER = ["leaf", "node", "log"]


def stored(*events):
    store = Store(books(), Waits([]))
    store.play(events)
    return store


def written(*pages):
    """A store in which these leaves and nodes were made by a step each and flushed."""
    store = Store(books(), Waits([]))
    for page in pages:
        if page[0] == "leaf":
            store.do("put", [page])
        else:
            store.do("guess", [leaf(9999), page])
        store.flush(page)
    return store


def stamps_of(backup):
    disk = backup.copied()
    return {page: disk[page] for page in disk.stamped()}


class Orders(unittest.TestCase):
    def raised(self, catalog, order):
        store, given = Store(catalog, Waits([])), list(order)
        with self.assertRaises(BadOrder) as caught:
            Backup(store, order)
        self.assertEqual((order, state_of(store)), (given, ([], [], [])))
        self.assertIsNot(caught.exception.order, order)
        return caught.exception.order

    def test_an_order_that_is_wrong(self):
        for order in [[], ["leaf"], ["leaf", "node"], ["node", "log"], ["leaf", "node", "node"],
                      ["leaf", "node", "log", "leaf"], ["leaf", "leaf", "node", "node", "log", "log"],
                      ["leaf", "node", "root"], ["leaf", "node", "log", "root"], ["Leaf", "node", "log"],
                      ["leaf", "node", "log", ""], ["", "", ""], ["log", "log", "log"]]:
            self.assertEqual(self.raised(books(), order), order)
        for order in (["leaf"], ["", ""]):
            self.assertEqual(self.raised(Catalog([]), order), order)

    def test_all_orders_of_the_groups(self):
        for order in (["leaf", "node", "log"], ["log", "leaf", "node"], ["node", "log", "leaf"]):
            backup = Backup(stored(), order)
            seen = []
            while backup.current is not None:
                seen.append(backup.current)
                backup.advance()
            self.assertEqual(seen, order)

    def test_later_changes_of_the_list(self):
        order = list(ORDER)
        backup = Backup(stored(), order)
        order.clear()
        self.assertEqual(backup.current, "leaf")
        order.extend(["node", "node", "node"])
        backup.advance()
        backup.advance()
        self.assertEqual(backup.current, "log")

    def test_groups_that_are_only_read(self):
        catalog = Catalog([Kind("k", [Both("x", "a"), Made("y", "b")])])
        self.raised(catalog, ["a"])
        self.assertEqual(Backup(Store(catalog, Waits([])), ["b", "a"]).current, "b")


class Current(unittest.TestCase):
    def test_first_between_and_at_the_end(self):
        backup = Backup(stored(), ORDER)
        for group in [*ORDER, None, None]:
            self.assertEqual(backup.current, group)
            self.assertEqual(backup.current, group)
            self.assertIsNone(backup.advance())

    def test_a_catalog_without_groups_is_finished_at_once(self):
        store = Store(Catalog([]), Waits([]))
        backup = Backup(store, [])
        self.assertIsNone(backup.current)
        self.assertIsNone(backup.advance())
        self.assertIsNone(backup.current)
        with self.assertRaises(OutOfTurn):
            backup.take(leaf(0))
        self.assertIs(backup.copied() == Disk(), True)


class Take(unittest.TestCase):
    def raised(self, backup, page):
        before, group = stamps_of(backup), backup.current
        with self.assertRaises(OutOfTurn) as caught:
            backup.take(page)
        self.assertEqual((stamps_of(backup), backup.current), (before, group))
        self.assertEqual(caught.exception.page, page)

    def test_the_stamp_on_disk_at_that_moment(self):
        store = written(leaf(1), leaf(2))
        backup = Backup(store, ORDER)
        self.assertEqual(backup.take(leaf(1)), 1)
        store.do("put", [leaf(2)])
        self.assertEqual(backup.take(leaf(2)), 2)
        store.do("put", [leaf(3)])
        store.flush(leaf(3))
        self.assertEqual(backup.take(leaf(3)), 4)
        self.assertEqual(stamps_of(backup), {leaf(1): 1, leaf(2): 2, leaf(3): 4})

    def test_a_page_stays_as_it_was_taken(self):
        store = written(leaf(1))
        backup = Backup(store, ORDER)
        backup.take(leaf(1))
        backup.take(leaf(2))
        for page in (leaf(1), leaf(2)):
            store.do("put", [page])
            store.flush(page)
        for _ in range(4):
            self.assertEqual(stamps_of(backup), {leaf(1): 1})
            backup.advance()

    def test_a_page_that_is_not_in_the_log(self):
        backup = Backup(stored(), ORDER)
        self.assertEqual(backup.take(leaf(77)), 0)
        self.raised(backup, leaf(77))
        self.assertEqual(stamps_of(backup), {})

    def test_a_page_of_another_group(self):
        backup = Backup(written(leaf(1), node(1)), ORDER)
        for page in (node(1), node(7), ("log", 0), ("root", 0), ("", 0)):
            self.raised(backup, page)
        backup.advance()
        for page in (leaf(1), leaf(7), ("log", 0), ("root", 0)):
            self.raised(backup, page)
        self.assertEqual(backup.take(node(1)), 2)

    def test_a_page_taken_before(self):
        store = written(leaf(1), leaf(2))
        backup = Backup(store, ORDER)
        backup.take(leaf(1))
        self.raised(backup, leaf(1))
        store.do("put", [leaf(1)])
        store.flush(leaf(1))
        self.raised(backup, leaf(1))
        backup.take(leaf(2))
        self.raised(backup, leaf(1))
        self.assertEqual(stamps_of(backup), {leaf(1): 1, leaf(2): 2})

    def test_a_finished_backup(self):
        backup = Backup(written(leaf(1), node(1)), ORDER)
        for _ in ORDER:
            backup.advance()
        for page in (leaf(1), leaf(5), node(1), ("log", 0), ("log", 3), ("root", 1)):
            self.raised(backup, page)


class Advance(unittest.TestCase):
    def test_the_rest_of_the_group_as_it_is_on_disk_then(self):
        store = written(leaf(1), leaf(2), leaf(3), node(4))
        backup = Backup(store, ORDER)
        backup.take(leaf(2))
        for page in (leaf(1), leaf(2)):
            store.do("put", [page])
            store.flush(page)
        store.do("put", [leaf(3)])
        backup.advance()
        flushed = store.log.last_version(leaf(1))
        self.assertEqual(stamps_of(backup), {leaf(1): flushed, leaf(2): 2, leaf(3): 3})
        store.flush(leaf(3))
        backup.advance()
        self.assertEqual(stamps_of(backup), {leaf(1): flushed, leaf(2): 2, leaf(3): 3, node(4): store.disk[node(4)]})

    def test_pages_that_no_step_has_named_so_far(self):
        store = stored()
        backup = Backup(store, ORDER)
        backup.advance()
        store.do("guess", [leaf(1), node(1)])
        store.flush(leaf(1))
        store.flush(node(1))
        backup.advance()
        self.assertEqual(stamps_of(backup), {node(1): 1})
        with self.assertRaises(OutOfTurn):
            backup.take(leaf(1))
        self.assertEqual(backup.copied()[leaf(1)], 0)

    def test_nothing_when_finished(self):
        store = written(leaf(1))
        backup = Backup(store, ORDER)
        for _ in ORDER:
            backup.advance()
        store.do("guess", [leaf(1), node(1)])
        store.flush(leaf(1))
        store.flush(node(1))
        for _ in range(3):
            self.assertIsNone(backup.advance())
            self.assertEqual((stamps_of(backup), backup.current), ({leaf(1): 1}, None))

    def test_other_groups_are_not_copied_yet(self):
        store = written(node(1), leaf(1))
        backup = Backup(store, ["node", "log", "leaf"])
        backup.advance()
        self.assertEqual(stamps_of(backup), {node(1): 1})
        backup.advance()
        self.assertEqual(stamps_of(backup), {node(1): 1})
        backup.advance()
        self.assertEqual(stamps_of(backup), {node(1): 1, leaf(1): 2})


class Copied(unittest.TestCase):
    def test_a_new_disk_each_time(self):
        store = written(leaf(1))
        backup = Backup(store, ORDER)
        self.assertIs(type(backup.copied()), Disk)
        self.assertIs(backup.copied() == Disk(), True)
        backup.take(leaf(1))
        disk = backup.copied()
        disk[leaf(1)] = 7
        disk[leaf(2)] = 9
        self.assertEqual(stamps_of(backup), {leaf(1): 1})
        self.assertEqual(store.disk[leaf(1)], 1)
        backup.advance()
        self.assertEqual(disk.stamped(), [leaf(1), leaf(2)])
        self.assertIs(backup.copied() == disk_of({leaf(1): 1}), True)

    def test_pages_that_were_not_taken_have_the_stamp_0(self):
        backup = Backup(written(leaf(1), leaf(2)), ORDER)
        backup.take(leaf(2))
        self.assertEqual([backup.copied()[leaf(number)] for number in (1, 2, 3)], [0, 2, 0])
        self.assertEqual(len(backup.copied()), 1)


class BesideTheStore(unittest.TestCase):
    def test_the_store_stays_as_it_is(self):
        store = written(leaf(1), node(2), leaf(3))
        before, catalog, waits = state_of(store), store.catalog, store.waits
        backup = Backup(store, ORDER)
        backup.take(leaf(1))
        for _ in range(4):
            backup.advance()
            backup.copied()
        self.assertEqual(state_of(store), before)
        self.assertEqual((shape_of(catalog), waits.rows), (shape_of(books()), ()))

    def test_a_later_play_of_the_store(self):
        store = stored()
        backup = Backup(store, ORDER)
        store.play([("do", "put", (leaf(1),)), ("flush", leaf(1)), ("do", "put", (leaf(2),)), ("flush", leaf(2))])
        self.assertEqual(backup.take(leaf(1)), 1)
        store.play([("do", "put", (leaf(1),)), ("flush", leaf(1)), ("do", "put", (leaf(2),)), ("flush", leaf(2))])
        backup.advance()
        store.play([("do", "guess", (leaf(1), node(1))), ("flush", node(1)), ("flush", leaf(1))])
        backup.advance()
        self.assertEqual(stamps_of(backup), {leaf(1): 1, leaf(2): 4, node(1): 5})

    def test_a_play_that_fails_changes_nothing(self):
        store = Store(books(), Waits([("guess", "new", "more")]))
        store.play([("do", "guess", (leaf(1), node(1))), ("flush", node(1))])
        backup = Backup(store, ORDER)
        with self.assertRaises(Held):
            store.play([("flush", leaf(1)), ("do", "guess", (leaf(2), node(2))), ("flush", leaf(2))])
        self.assertEqual(backup.take(leaf(1)), 0)
        backup.advance()
        self.assertEqual(backup.take(node(1)), 1)

    def test_two_backups_of_one_store(self):
        store = written(leaf(1), node(1))
        one, other = Backup(store, ORDER), Backup(store, ["node", "leaf", "log"])
        one.take(leaf(1))
        self.assertEqual((one.current, other.current), ("leaf", "node"))
        other.advance()
        store.do("put", [leaf(1)])
        store.flush(leaf(1))
        self.assertEqual(other.take(leaf(1)), store.disk[leaf(1)])
        one.advance()
        self.assertEqual((one.current, other.current), ("node", "leaf"))
        self.assertEqual(stamps_of(one), {leaf(1): 1})
        self.assertEqual(stamps_of(other), {leaf(1): store.disk[leaf(1)], node(1): 2})

    def test_redo_starts_with_the_log_and_the_backup(self):
        catalog = Catalog([Kind("split", [Both("old", "leaf"), Fresh("new", "node")])])
        store = Store(catalog, Waits([]))
        backup = Backup(store, ["node", "leaf"])
        store.do("split", [leaf(1), node(1)])
        backup.advance()
        store.flush(leaf(1))
        backup.advance()
        store.do("split", [leaf(1), node(1)])
        self.assertIsNone(check(store.log, backup.copied(), Contents()))
        self.assertIs(backup.copied() == disk_of({leaf(1): 1}), True)

    def test_drawn_backups_word_by_word(self):
        dice, many = Dice(91), 0
        for _ in range(150):
            catalog = wide_catalog(dice, most_kinds=4)
            groups = catalog.groups()
            order = []
            while len(order) < len(groups):
                order.append(dice.one_of([group for group in groups if group not in order]))
            store = Store(catalog, some_waits(dice, catalog, of=5))
            backup, at, held = Backup(store, order), 0, {}
            for _ in range(25):
                pick = dice.below(8)
                page = (dice.one_of(["a", "b", "c"]), dice.below(3))
                if pick < 3:
                    drawn_step(dice, store)
                elif pick < 5:
                    drawn_flush(dice, store)
                elif pick < 7:
                    if order[at:at + 1] == [page[0]] and page not in held:
                        held[page] = store.disk[page]
                        self.assertEqual(backup.take(page), held[page])
                    else:
                        self.assertRaises(OutOfTurn, backup.take, page)
                elif dice.below(2):
                    for page in [(group, number) for group in order[at:at + 1] for number in range(3)]:
                        held.setdefault(page, store.disk[page])
                    at += 1
                    backup.advance()
                self.assertEqual(backup.current, order[at] if at < len(order) else None)
                self.assertEqual(stamps_of(backup), {page: held[page] for page in held if held[page] > 0})
            many += len(stamps_of(backup))
        self.assertGreater(many, 60)


if __name__ == "__main__":
    unittest.main()
