"""Points 8, 10 and 14: redo, step by step."""

import unittest

from redopages.errors import BadStamp
from redopages.kinds import Both, Fresh, Kind, Made, Read, Renewed
from redopages.logs import Contents, Log, Step
from redopages.redo import State, history, redo
from redopages.store import Disk
from samples import (Dice, books, disk_of, leaf, log_of, node, picked, redone, some_catalog, some_disk, some_log,
                     tree_of)


def texts(state, pages):
    """For each page its stamp and the text of its content."""
    return {page: (state.stamp_of(page), state.contents.text(state.content_of(page), depth=4)) for page in pages}


class AtTheStart(unittest.TestCase):
    def setUp(self):
        self.log = log_of(books(), ("copy", leaf(1), leaf(2)), ("put", leaf(1)), ("copy", leaf(1), leaf(2)))

    def test_any_version_of_each_page(self):
        pages = self.log.all_pages()
        contents = Contents()
        found = history(self.log, contents)
        for row in picked([self.log.versions(page) for page in pages]):
            state = State(self.log, disk_of(dict(zip(pages, row))), contents)
            for page, stamp in zip(pages, row):
                self.assertEqual(state.stamp_of(page), stamp)
                self.assertEqual(state.content_of(page), found[(page, stamp)])

    def test_the_table_that_was_passed(self):
        contents = Contents()
        state = State(self.log, Disk(), contents)
        self.assertIs(state.contents, contents)
        self.assertIs(redo(log=self.log, disk=Disk(), contents=contents).contents, contents)
        self.assertIs(State(contents=contents, disk=Disk(), log=Log(books())).contents, contents)

    def test_bad_stamps(self):
        rows = [({leaf(1): 1}, leaf(1), 1), ({leaf(1): 3}, leaf(1), 3), ({leaf(2): 2}, leaf(2), 2),
                ({leaf(2): 4, leaf(3): 1}, leaf(2), 4), ({leaf(2): 1, leaf(3): 1}, leaf(3), 1),
                ({node(0): 2}, node(0), 2), ({node(0): 1, leaf(10): 9, leaf(9): 5, leaf(1): 2}, leaf(9), 5)]
        for stamps, page, version in rows:
            disk, lines = disk_of(stamps), self.log.lines()
            for call in (State, redo):
                with self.assertRaises(BadStamp) as caught:
                    call(self.log, disk, Contents())
                self.assertEqual((caught.exception.page, caught.exception.version), (page, version))
                self.assertIs(disk == disk_of(stamps), True)
                self.assertEqual(self.log.lines(), lines)
        with self.assertRaises(BadStamp):
            State(Log(books()), disk_of({leaf(1): 1}), Contents())

    def test_the_log_and_the_disk_are_read_only_when_it_is_created(self):
        disk = disk_of({leaf(1): 2})
        state = State(self.log, disk, Contents())
        before = texts(state, [leaf(1), leaf(2), leaf(5), leaf(6)])
        disk[leaf(1)] = 0
        disk[leaf(2)] = 3
        self.log.do("copy", [leaf(6), leaf(5)])
        self.assertEqual(texts(state, [leaf(1), leaf(2), leaf(5), leaf(6)]), before)
        self.assertEqual(before[leaf(1)], (2, "2.to()"))

    def test_pages_that_are_not_in_the_log(self):
        contents = Contents()
        state = State(self.log, Disk(), contents)
        for page in (leaf(9), node(1), ("root", 5)):
            self.assertEqual(state.stamp_of(page), 0)
            number = state.content_of(page)
            self.assertEqual(contents.formula(number), ("start", page))
            self.assertEqual(state.content_of(page), number)

    def test_put(self):
        contents = Contents()
        state = State(self.log, disk_of({leaf(1): 2}), contents)
        for page in (leaf(1), leaf(2), leaf(9), ("root", 5)):
            for stamp, content in [(7, 1), (0, 0), (-3, 900), (99, 2)]:
                state.put(page, stamp, content)
                self.assertEqual((state.stamp_of(page), state.content_of(page)), (stamp, content))
        state.put(content=4, stamp=5, page=leaf(3))
        self.assertEqual((state.stamp_of(page=leaf(3)), state.content_of(page=leaf(3))), (5, 4))

    def test_two_states_know_nothing_of_each_other(self):
        contents = Contents()
        one, two = (State(self.log, Disk(), contents) for _ in range(2))
        one.put(leaf(1), 2, 0)
        one.put(leaf(9), 2, 0)
        self.assertEqual((two.stamp_of(leaf(1)), two.stamp_of(leaf(9))), (0, 0))


class ByOneStep(unittest.TestCase):
    def test_the_pages_that_it_made_again_in_the_order_of_the_roles(self):
        log = log_of(books(), ("all", leaf(3), node(3), leaf(1), leaf(2), node(1), ("log", 0)))
        made = [node(3), leaf(1), leaf(2), node(1), ("log", 0)]
        for row in picked([[0, 1]] * len(made)):
            state = State(log, disk_of(dict(zip(made, row))), Contents())
            due = [page for page, stamp in zip(made, row) if stamp == 0]
            found = log[1](state)
            self.assertIs(type(found), list)
            self.assertEqual(found, due)
            self.assertEqual([state.stamp_of(page) for page in made], [1] * 5)
            self.assertEqual(state.stamp_of(leaf(3)), 0)

    def test_none_is_made_when_it_is_called_again(self):
        log = log_of(books(), ("split", leaf(1), leaf(2), node(0)))
        state = State(log, Disk(), Contents())
        self.assertEqual(log[1](state), [leaf(1), leaf(2), node(0)])
        before = texts(state, log.all_pages())
        self.assertEqual(log[1](state), [])
        self.assertEqual(texts(state, log.all_pages()), before)

    def test_all_contents_are_taken_before_any_page_changes(self):
        log = log_of(books(), ("split", leaf(1), leaf(2), node(0)))
        state = State(log, Disk(), Contents())
        log[1](state)
        self.assertEqual(texts(state, log.all_pages()), {
            leaf(1): (1, "1.old(leaf:1, node:0)"), leaf(2): (1, "1.new(leaf:1, node:0)"), node(0): (1, "1.up()"),
        })

    def test_a_page_that_is_newer_is_left_alone_but_read(self):
        log = log_of(books(), ("split", leaf(1), leaf(2), node(0)), ("put", leaf(1)))
        state = State(log, disk_of({leaf(1): 2}), Contents())
        self.assertEqual(log[1](state), [leaf(2), node(0)])
        self.assertEqual(texts(state, log.all_pages()), {
            leaf(1): (2, "2.to()"), leaf(2): (1, "1.new(2.to(), node:0)"), node(0): (1, "1.up()"),
        })
        self.assertEqual(log[2](state), [])

    def test_pages_written_out_in_the_log_get_what_is_written_there(self):
        log = log_of(books(), ("put", leaf(1)), ("split", leaf(1), leaf(2), node(0)), ("put", leaf(1)))
        state = State(log, disk_of({leaf(1): 3}), Contents())
        self.assertEqual([step(state) for step in log], [[], [leaf(2), node(0)], []])
        self.assertEqual(texts(state, [node(0)]), {node(0): (2, "2.up()")})
        state = State(log, disk_of({node(0): 2}), Contents())
        self.assertEqual([step(state) for step in log], [[leaf(1)], [leaf(1), leaf(2)], [leaf(1)]])
        self.assertEqual(texts(state, [leaf(1), leaf(2)]),
                         {leaf(1): (3, "3.to()"), leaf(2): (2, "2.new(1.to(), 2.up())")})

    def test_a_new_list_each_time(self):
        log = log_of(books(), ("put", leaf(1)))
        state = State(log, Disk(), Contents())
        log[1](state).clear()
        self.assertEqual(log[1].pages, (leaf(1),))

    def test_steps_in_another_order(self):
        log = log_of(books(), ("copy", leaf(1), leaf(2)), ("copy", leaf(2), leaf(3)))
        state = State(log, Disk(), Contents())
        self.assertEqual((log[2](state), log[1](state), log[2](state)), ([leaf(3)], [leaf(2)], []))
        self.assertEqual(texts(state, [leaf(3)]), {leaf(3): (2, "2.to(leaf:2)")})

    def test_a_step_that_was_made_by_hand(self):
        kind = Kind("mix", [Both("a", "leaf"), Made("b", "leaf"), Fresh("c", "node"), Read("d", "node"),
                            Renewed("e", "leaf")])
        step = Step(7, kind, [leaf(1), leaf(2), node(3), node(4), leaf(5)])
        state = State(Log(books()), Disk(), Contents())
        state.put(leaf(1), 6, state.contents.number_of(("fresh", 6, "x")))
        state.put(leaf(2), 7, state.contents.number_of(("fresh", 7, "x")))
        self.assertEqual(step(state), [leaf(1), node(3), leaf(5)])
        self.assertEqual(texts(state, step.pages), {
            leaf(1): (7, "7.a(6.x(), node:4, leaf:5)"), leaf(2): (7, "7.x()"), node(3): (7, "7.c()"),
            node(4): (0, "node:4"), leaf(5): (7, "7.e()"),
        })
        self.assertEqual(step(state), [])

    def test_the_formula_has_the_numbers_of_the_contents_that_were_taken(self):
        log, contents = log_of(books(), ("merge", leaf(4), leaf(2), node(1), leaf(3), node(0))), Contents()
        state = State(log, Disk(), contents)
        taken = [state.content_of(page) for page in (leaf(4), leaf(2), node(1), node(0))]
        log[1](state)
        self.assertEqual(contents.formula(state.content_of(leaf(3))), ("derived", 1, "d", tuple(taken)))
        self.assertEqual(contents.formula(state.content_of(node(0))), ("derived", 1, "e", tuple(taken)))

    def test_a_step_that_raises_an_error_changes_no_page(self):
        kind = Kind("mix", [Fresh("a", "leaf"), Read("b", "leaf"), Made("c", "leaf")])
        state = State(Log(books()), Disk(), Contents())
        state.put(leaf(2), 0, 900)
        with self.assertRaises(ValueError) as caught:
            Step(1, kind, [leaf(1), leaf(2), leaf(3)])(state)
        self.assertEqual(caught.exception.number, 900)
        self.assertEqual((state.stamp_of(leaf(1)), state.stamp_of(leaf(3))), (0, 0))


class Redone(unittest.TestCase):
    def test_an_empty_log(self):
        state = redo(Log(books()), Disk(), Contents())
        self.assertIs(type(state), State)
        self.assertEqual(state.stamp_of(leaf(1)), 0)

    def test_all_pages_have_their_last_version(self):
        log = log_of(books(), ("copy", leaf(1), leaf(2)), ("put", leaf(1)), ("copy", leaf(1), leaf(2)))
        state = redo(log, Disk(), Contents())
        self.assertEqual(texts(state, log.all_pages()), {leaf(1): (2, "2.to()"), leaf(2): (3, "3.to(2.to())")})

    def test_the_example_of_the_document_that_goes_wrong(self):
        log = log_of(books(), ("split", leaf(0), leaf(1), node(0)))
        state = redo(log, disk_of({leaf(0): 1, node(0): 1}), Contents())
        self.assertEqual(texts(state, [leaf(1)]), {leaf(1): (1, "1.new(1.old(leaf:0, node:0), 1.up())")})

    def test_against_the_words_of_the_document(self):
        dice = Dice(23)
        for _ in range(400):
            log, contents = some_log(dice, some_catalog(dice, most_roles=4), most=7, numbers=3), Contents()
            disk = some_disk(dice, log)
            stamps, trees, _, again = redone(log, disk)
            before = (log.lines(), disk.copied())
            state = redo(log, disk, contents)
            self.assertIs(type(state), State)
            pages = log.all_pages()
            self.assertEqual({page: state.stamp_of(page) for page in pages}, stamps)
            self.assertEqual({page: tree_of(contents, state.content_of(page)) for page in pages}, trees)
            self.assertEqual(log.lines(), before[0])
            self.assertIs(disk == before[1], True)
            other = State(log, disk, contents)
            self.assertEqual({step.number: step(other) for step in log}, again)
            self.assertEqual([(other.stamp_of(page), other.content_of(page)) for page in pages],
                             [(state.stamp_of(page), state.content_of(page)) for page in pages])


if __name__ == "__main__":
    unittest.main()
