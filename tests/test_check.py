"""Point 15: when redo is right, and the reason if it is not."""

import unittest

from redopages.errors import BadStamp, Broken, Newer
from redopages.kinds import Both, Catalog, Kind, Made
from redopages.logs import Contents, Log
from redopages.redo import check, history, redo
from redopages.store import Disk, Store, crash_states
from redopages.waits import Waits
from samples import Dice, books, disk_of, leaf, log_of, node, some_catalog, some_disk, some_log, tree_of, why_wrong

SPLITS = Catalog([Kind("split", [Both("old", "leaf"), Made("new", "leaf")])])


class Case(unittest.TestCase):
    def right(self, log, stamps):
        self.assertIsNone(check(log, disk_of(stamps), Contents()))

    def broken(self, log, stamps, page, due, found, newer):
        """Check all that the error tells: the page, the two texts and the reason."""
        disk, lines, contents = disk_of(stamps), log.lines(), Contents()
        with self.assertRaises(Broken) as caught:
            check(log, disk, contents)
        error = caught.exception
        self.assertIs(type(error.newer), Newer)
        self.assertIs(error.__cause__, error.newer)
        self.assertEqual((error.page, contents.text(error.due, depth=4), contents.text(error.found, depth=4)),
                         (page, due, found))
        self.assertEqual((error.newer.step, error.newer.page, error.newer.stood, error.newer.stamp), newer)
        self.assertIs(disk == disk_of(stamps), True)
        self.assertEqual(log.lines(), lines)


class Right(Case):
    def test_an_empty_log(self):
        self.right(Log(books()), {})

    def test_nothing_flushed_and_everything_flushed(self):
        log = log_of(books(), ("copy", leaf(1), leaf(2)), ("split", leaf(2), leaf(1), node(0)), ("put", leaf(1)),
                     ("merge", leaf(1), leaf(2), node(0), leaf(4), node(3)))
        self.right(log, {})
        self.right(log, {page: log.versions(page)[-1] for page in log.all_pages()})

    def test_a_page_written_out_in_the_log_needs_none(self):
        log = log_of(books(), ("split", leaf(1), leaf(2), node(0)))
        self.right(log, {leaf(1): 1, leaf(2): 1})
        self.right(log, {leaf(2): 1})

    def test_a_page_read_too_new_by_a_step_that_makes_no_page_again(self):
        log = log_of(books(), ("copy", leaf(1), leaf(2)), ("put", leaf(1)))
        self.right(log, {leaf(1): 2, leaf(2): 1})
        self.right(log, {leaf(2): 1})

    def test_a_wrong_page_that_is_made_once_more_without_reading(self):
        log = log_of(books(), ("copy", leaf(1), leaf(2)), ("put", leaf(1)), ("put", leaf(2)))
        self.right(log, {leaf(1): 2})

    def test_arguments_may_be_given_by_name(self):
        self.assertIsNone(check(contents=Contents(), disk=Disk(), log=log_of(books(), ("put", leaf(1)))))


class FirstStep(Case):
    def test_the_example_of_the_document(self):
        log = log_of(SPLITS, ("split", leaf(0), leaf(1)))
        self.broken(log, {leaf(0): 1}, leaf(1), "1.new(leaf:0)", "1.new(1.old(leaf:0))", (1, leaf(0), 0, 1))
        for stamps in ({}, {leaf(1): 1}, {leaf(0): 1, leaf(1): 1}):
            self.right(log, stamps)

    def test_a_page_that_was_only_read(self):
        log = log_of(books(), ("put", leaf(1)), ("copy", leaf(1), leaf(2)), ("put", leaf(1)), ("put", leaf(1)))
        self.broken(log, {leaf(1): 3}, leaf(2), "2.to(1.to())", "2.to(3.to())", (2, leaf(1), 1, 3))
        self.broken(log, {leaf(1): 4}, leaf(2), "2.to(1.to())", "2.to(4.to())", (2, leaf(1), 1, 4))
        self.right(log, {leaf(1): 1})

    def test_the_first_page_in_ascending_order(self):
        log = log_of(books(), ("merge", leaf(5), leaf(6), node(1), leaf(9), node(0)), ("copy", leaf(5), leaf(10)),
                     ("copy", leaf(5), leaf(3)), ("put", leaf(5)))
        self.broken(log, {leaf(5): 4}, leaf(3), "3.to(leaf:5)", "3.to(4.to())", (3, leaf(5), 0, 4))
        self.broken(log, {leaf(5): 4, leaf(3): 3}, leaf(9), "1.d(leaf:5, leaf:6, node:1, node:0)",
                    "1.d(4.to(), leaf:6, node:1, node:0)", (1, leaf(5), 0, 4))
        self.broken(log, {leaf(5): 4, leaf(3): 3, leaf(9): 1}, leaf(10), "2.to(leaf:5)", "2.to(4.to())",
                    (2, leaf(5), 0, 4))
        self.broken(log, {leaf(5): 4, leaf(3): 3, leaf(9): 1, leaf(10): 2}, node(0),
                    "1.e(leaf:5, leaf:6, node:1, node:0)", "1.e(4.to(), leaf:6, node:1, node:0)", (1, leaf(5), 0, 4))
        self.right(log, {leaf(5): 4, leaf(3): 3, leaf(9): 1, leaf(10): 2, node(0): 1})


class FurtherBack(Case):
    def test_several_steps_back(self):
        log = log_of(books(), *[("copy", leaf(number), leaf(number - 1)) for number in (9, 8, 7, 6)], ("put", leaf(9)))
        self.broken(log, {leaf(9): 5}, leaf(5), "4.to(3.to(2.to(1.to(leaf:9))))", "4.to(3.to(2.to(1.to(5.to()))))",
                    (1, leaf(9), 0, 5))
        self.broken(log, {leaf(9): 5, leaf(5): 4}, leaf(6), "3.to(2.to(1.to(leaf:9)))", "3.to(2.to(1.to(5.to())))",
                    (1, leaf(9), 0, 5))
        self.right(log, {leaf(9): 5, leaf(8): 1})

    def test_through_a_page_that_a_step_reads_and_makes(self):
        log = log_of(SPLITS, ("split", leaf(5), leaf(1)), ("split", leaf(1), leaf(7)), ("split", leaf(1), leaf(8)))
        self.broken(log, {leaf(5): 1}, leaf(1), "3.old(2.old(1.new(leaf:5)))", "3.old(2.old(1.new(1.old(leaf:5))))",
                    (1, leaf(5), 0, 1))

    def test_the_step_of_the_version_just_before_and_not_a_later_one(self):
        log = log_of(books(), ("copy", leaf(1), leaf(2)), ("copy", leaf(2), leaf(0)), ("put", leaf(1)),
                     ("copy", leaf(1), leaf(2)))
        self.broken(log, {leaf(1): 3}, leaf(0), "2.to(1.to(leaf:1))", "2.to(1.to(3.to()))", (1, leaf(1), 0, 3))
        self.broken(log, {leaf(1): 3, leaf(2): 4}, leaf(0), "2.to(1.to(leaf:1))", "2.to(4.to(3.to()))",
                    (2, leaf(2), 1, 4))

    def test_an_older_stamp_of_the_page_does_not_end_the_search(self):
        log = log_of(books(), ("put", leaf(5)), ("copy", leaf(9), leaf(5)), ("copy", leaf(5), leaf(1)),
                     ("put", leaf(9)))
        self.broken(log, {leaf(5): 1, leaf(9): 4}, leaf(1), "3.to(2.to(leaf:9))", "3.to(2.to(4.to()))",
                    (2, leaf(9), 0, 4))
        self.right(log, {leaf(5): 2, leaf(9): 4})


class SeveralRead(Case):
    def test_the_first_in_the_order_of_the_roles(self):
        log = log_of(books(), ("merge", leaf(8), leaf(7), node(1), leaf(3), node(0)), ("put", leaf(7)),
                     ("put", leaf(8)))
        self.broken(log, {leaf(7): 2, leaf(8): 3}, leaf(3), "1.d(leaf:8, leaf:7, node:1, node:0)",
                    "1.d(3.to(), 2.to(), node:1, node:0)", (1, leaf(8), 0, 3))
        self.broken(log, {leaf(7): 2}, leaf(3), "1.d(leaf:8, leaf:7, node:1, node:0)",
                    "1.d(leaf:8, 2.to(), node:1, node:0)", (1, leaf(7), 0, 2))
        self.broken(log, {leaf(3): 1, leaf(7): 2}, node(0), "1.e(leaf:8, leaf:7, node:1, node:0)",
                    "1.e(leaf:8, 2.to(), node:1, node:0)", (1, leaf(7), 0, 2))

    def test_a_page_that_reads_itself_behind_one_that_is_right(self):
        log = log_of(books(), ("merge", leaf(1), leaf(2), node(1), leaf(3), node(0)), ("put", leaf(2)),
                     ("merge", leaf(5), leaf(1), node(1), leaf(4), node(0)))
        self.broken(log, {leaf(2): 2, leaf(3): 1}, leaf(4),
                    "3.d(leaf:5, leaf:1, node:1, 1.e(leaf:1, leaf:2, node:1, node:0))",
                    "3.d(leaf:5, leaf:1, node:1, 1.e(leaf:1, 2.to(), node:1, node:0))", (1, leaf(2), 0, 2))
        self.broken(log, {leaf(2): 2, leaf(3): 1, leaf(4): 3}, node(0),
                    "3.e(leaf:5, leaf:1, node:1, 1.e(leaf:1, leaf:2, node:1, node:0))",
                    "3.e(leaf:5, leaf:1, node:1, 1.e(leaf:1, 2.to(), node:1, node:0))", (1, leaf(2), 0, 2))


class Wrong(Case):
    def test_bad_stamps_come_before_anything_else(self):
        log = log_of(SPLITS, ("split", leaf(0), leaf(1)))
        rows = [({leaf(0): 1, leaf(7): 1}, leaf(7), 1), ({leaf(0): 1, leaf(1): 2}, leaf(1), 2),
                ({leaf(0): 3, leaf(1): 2}, leaf(0), 3), ({node(0): 3, leaf(0): 1}, node(0), 3)]
        for stamps, page, version in rows:
            with self.assertRaises(BadStamp) as caught:
                check(log, disk_of(stamps), Contents())
            self.assertEqual((caught.exception.page, caught.exception.version), (page, version))


class Tables(Case):
    def test_the_numbers_are_those_of_the_table(self):
        log, contents = log_of(SPLITS, ("split", leaf(0), leaf(1))), Contents()
        for row in [("start", node(5)), ("fresh", 3, "x"), ("start", leaf(1))]:
            contents.number_of(row)
        disk = disk_of({leaf(0): 1})
        with self.assertRaises(Broken) as caught:
            check(log, disk, contents)
        self.assertEqual(caught.exception.due, history(log, contents)[(leaf(1), 1)])
        self.assertEqual(caught.exception.found, redo(log, disk, contents).content_of(leaf(1)))
        self.assertNotEqual(caught.exception.due, caught.exception.found)
        self.assertEqual(contents.number_of(("fresh", 3, "x")), 1)


class Many(Case):
    def test_against_the_words_of_the_document(self):
        dice, found, far = Dice(29), [0, 0], 0
        for _ in range(1500):
            log, contents = some_log(dice, some_catalog(dice, most_roles=4), most=8, numbers=3), Contents()
            disk = some_disk(dice, log)
            due = why_wrong(log, disk)
            found[due is not None] += 1
            if due is None:
                self.assertIsNone(check(log, disk, contents))
                continue
            with self.assertRaises(Broken) as caught:
                check(log, disk, contents)
            error, newer = caught.exception, caught.exception.newer
            self.assertEqual((error.page, (newer.step, newer.page, newer.stood, newer.stamp)), due)
            far += newer.step != log.versions(error.page)[-1]
            right = history(log, contents)[(error.page, log.versions(error.page)[-1])]
            self.assertEqual(error.due, right)
            self.assertEqual(error.found, redo(log, disk, contents).content_of(error.page))
            self.assertNotEqual(tree_of(contents, error.due), tree_of(contents, error.found))
        self.assertGreater(min(*found, far), 30)

    def test_under_the_wait_of_a_split_redo_is_right(self):
        waits, log = Waits([("split", "old", "new")]), Log(SPLITS)
        for pages in ([leaf(0), leaf(1)], [leaf(1), leaf(2)], [leaf(0), leaf(2)], [leaf(2), leaf(0)]):
            log.do("split", pages)
            for stamps in crash_states(log, waits):
                self.right(log, dict(zip(log.all_pages(), stamps)))
        store = Store(SPLITS, waits)
        store.play([("do", "split", (leaf(0), leaf(1))), ("flush", leaf(1)), ("do", "split", (leaf(1), leaf(0)))])
        self.assertIsNone(check(store.log, store.crash(), Contents()))


if __name__ == "__main__":
    unittest.main()
