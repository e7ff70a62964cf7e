"""Points 7 and 8: the contents of all pages of a log in all of their versions."""

import unittest

from redopages.logs import Contents, Log
from redopages.redo import history
from samples import Dice, all_trees, books, leaf, log_of, node, some_catalog, some_log, tree_of


def texts(log, contents=None):
    """The text of each page in each version."""
    contents = Contents() if contents is None else contents
    return {key: contents.text(number, depth=4) for key, number in history(log, contents).items()}


class Keys(unittest.TestCase):
    def test_an_empty_log(self):
        contents = Contents()
        self.assertEqual(history(Log(books()), contents), {})

    def test_exactly_all_pages_and_versions(self):
        log = log_of(books(), ("copy", leaf(5), leaf(1)), ("split", leaf(1), leaf(3), node(0)), ("put", leaf(1)))
        found = history(log, Contents())
        self.assertIs(type(found), dict)
        self.assertEqual(sorted(found), [(leaf(1), 0), (leaf(1), 1), (leaf(1), 2), (leaf(1), 3), (leaf(3), 0),
                                         (leaf(3), 2), (leaf(5), 0), (node(0), 0), (node(0), 2)])

    def test_a_new_dict_each_time(self):
        log, contents = log_of(books(), ("copy", leaf(5), leaf(1))), Contents()
        first = history(log, contents)
        due = dict(first)
        first.clear()
        self.assertEqual(history(log, contents), due)


class Formulas(unittest.TestCase):
    def test_each_class_of_roles(self):
        log = log_of(books(), ("split", leaf(1), leaf(2), node(0)),
                     ("all", leaf(2), node(1), leaf(3), leaf(1), node(0), ("log", 0)))
        self.assertEqual(texts(log), {
            (leaf(1), 0): "leaf:1", (leaf(2), 0): "leaf:2", (leaf(3), 0): "leaf:3", (node(0), 0): "node:0",
            (node(1), 0): "node:1", (("log", 0), 0): "log:0",
            (leaf(1), 1): "1.old(leaf:1, node:0)", (leaf(2), 1): "1.new(leaf:1, node:0)", (node(0), 1): "1.up()",
            (node(1), 2): "2.b(1.new(leaf:1, node:0), 1.old(leaf:1, node:0), 1.up())", (leaf(3), 2): "2.c()",
            (leaf(1), 2): "2.d(1.new(leaf:1, node:0), 1.old(leaf:1, node:0), 1.up())", (node(0), 2): "2.e()",
            (("log", 0), 2): "2.f(1.new(leaf:1, node:0), 1.old(leaf:1, node:0), 1.up())",
        })

    def test_steps_that_read_and_make_the_same_page(self):
        log = log_of(books(), *[("count", leaf(1), leaf(2), node(0), ("log", number)) for number in range(3)])
        found = texts(log)
        self.assertEqual(found[(node(0), 3)],
                         "3.sum(leaf:1, leaf:2, 2.sum(leaf:1, leaf:2, 1.sum(leaf:1, leaf:2, node:0)))")
        self.assertEqual(found[(("log", 2), 3)], "3.note()")

    def test_kinds_that_read_nothing(self):
        log = log_of(books(), ("guess", leaf(0), node(0)), ("guess", leaf(0), node(0)))
        self.assertEqual(texts(log), {
            (leaf(0), 0): "leaf:0", (leaf(0), 1): "1.new()", (leaf(0), 2): "2.new()",
            (node(0), 0): "node:0", (node(0), 1): "1.more()", (node(0), 2): "2.more()",
        })
        contents = Contents()
        found = history(log, contents)
        self.assertEqual(contents.formula(found[(leaf(0), 1)]), ("derived", 1, "new", ()))
        self.assertEqual(contents.formula(found[(node(0), 2)]), ("derived", 2, "more", ()))

    def test_a_step_reads_what_was_there_before_it(self):
        log = log_of(books(), ("copy", leaf(1), leaf(2)), ("copy", leaf(2), leaf(1)), ("copy", leaf(1), leaf(2)))
        self.assertEqual(texts(log)[(leaf(2), 3)], "3.to(2.to(1.to(leaf:1)))")

    def test_against_the_words_of_the_document(self):
        dice = Dice(3)
        for _ in range(150):
            log, contents = some_log(dice, some_catalog(dice), most=6, numbers=3), Contents()
            found = history(log, contents)
            self.assertEqual({key: tree_of(contents, number) for key, number in found.items()}, all_trees(log))


class Tables(unittest.TestCase):
    def setUp(self):
        self.log = log_of(books(), ("copy", leaf(5), leaf(1)), ("put", leaf(5)), ("copy", leaf(5), leaf(1)))

    def test_a_table_that_has_formulas_already(self):
        contents = Contents()
        rows = [("start", ("root", 0)), ("start", leaf(5)), ("derived", 1, "to", (1,)), ("fresh", 2, "to")]
        for row in rows:
            contents.number_of(row)
        found = history(self.log, contents)
        self.assertEqual([contents.formula(number) for number in range(4)], rows)
        self.assertEqual((found[(leaf(5), 0)], found[(leaf(1), 1)], found[(leaf(5), 2)]), (1, 2, 3))
        self.assertEqual(texts(self.log, contents), texts(self.log))

    def test_asked_twice(self):
        contents = Contents()
        first = history(self.log, contents)
        many = len(contents)
        self.assertEqual(history(self.log, contents), first)
        self.assertEqual(len(contents), many)

    def test_asked_again_as_the_log_grows(self):
        contents = Contents()
        first = history(self.log, contents)
        self.log.do("put", [leaf(9)])
        second = history(self.log, contents)
        self.assertEqual({key: second[key] for key in first}, first)
        self.assertEqual(sorted(set(second) - set(first)), [(leaf(9), 0), (leaf(9), 4)])

    def test_the_log_stays_as_it_was(self):
        before = self.log.lines()
        history(self.log, Contents())
        self.assertEqual(self.log.lines(), before)

    def test_parameters_may_be_given_by_name(self):
        self.assertEqual(len(history(contents=Contents(), log=self.log)), 5)


if __name__ == "__main__":
    unittest.main()
