"""Points 3, 4 and 6: the lines of a log."""

import unittest

from redopages.kinds import Both, Catalog, Fresh, Kind, Made, Read, Renewed
from redopages.logs import Log
from samples import books, leaf, log_of, node


class Lines(unittest.TestCase):
    def test_an_empty_log(self):
        self.assertEqual(Log(books()).lines(), [])

    def test_the_line_of_the_document(self):
        log = log_of(Catalog([Kind("split", [Both("old", "leaf"), Made("new", "leaf")])]), ("split", leaf(0), leaf(12)))
        self.assertEqual(log.lines(), ["   1  split     rm leaf:0         m  leaf:12"])

    def test_each_mark_with_names_of_one_and_eight_letters(self):
        kind = Kind("compacts", [Read("abcdefgh", "a"), Made("b", "abcdefgh"), Fresh("c", "ab"), Both("d", "abc"),
                                 Renewed("e", "abcdefgh")])
        catalog = Catalog([kind, Kind("k", [Fresh("a", "zzzzzzzz")])])
        log = log_of(catalog, ("compacts", ("a", 0), ("abcdefgh", 1234), ("ab", 56), ("abc", 789), ("abcdefgh", 9999)),
                     ("k", ("zzzzzzzz", 1000)))
        self.assertEqual(log.lines(), [
            "   1  compacts  r  a:0            m  abcdefgh:1234  f  ab:56          rm abc:789        rf abcdefgh:9999",
            "   2  k         f  zzzzzzzz:1000",
        ])

    def test_page_numbers_of_one_to_four_digits(self):
        log = log_of(books(), *[("copy", leaf(number), leaf(number + 1)) for number in (0, 9, 99, 999, 9998)])
        self.assertEqual(log.lines(), [
            "   1  copy      r  leaf:0         m  leaf:1",
            "   2  copy      r  leaf:9         m  leaf:10",
            "   3  copy      r  leaf:99        m  leaf:100",
            "   4  copy      r  leaf:999       m  leaf:1000",
            "   5  copy      r  leaf:9998      m  leaf:9999",
        ])

    def test_six_roles(self):
        log = log_of(books(), ("all", leaf(3), node(30), leaf(300), leaf(4), node(4), ("log", 40)))
        due = ("   1  all       r  leaf:3         m  node:30        f  leaf:300       rm leaf:4         rf node:4"
               "         m  log:40")
        self.assertEqual(log.lines(), [due])

    def test_numbers_of_one_and_two_digits(self):
        log = log_of(books(), *[("put", leaf(number)) for number in range(1, 100)])
        lines = log.lines()
        self.assertEqual(len(lines), 99)
        for at in (1, 9, 10, 99):
            self.assertEqual(lines[at - 1], str(at).rjust(4) + "  put       f  leaf:" + str(at))

    def test_the_columns(self):
        log = log_of(books(), ("split", leaf(1), leaf(22), node(333)),
                     ("merge", leaf(1), leaf(2), node(1), leaf(3), node(2)))
        for line, step in zip(log.lines(), log):
            self.assertEqual(line, line.rstrip(" "))
            wide = line.ljust(14 + 18 * len(step.pages))
            self.assertEqual((wide[:4], wide[4:6], wide[6:14]), (f"{step.number:4}", "  ", step.kind.name.ljust(8)))
            for at, (role, page) in enumerate(zip(step.kind.roles, step.pages)):
                part = wide[14 + 18 * at:][:18]
                self.assertEqual(part, "  " + role.MARK.ljust(2) + " " + f"{page[0]}:{page[1]}".ljust(13))

    def test_a_new_list_each_time_that_goes_on_with_the_log(self):
        log = log_of(books(), ("put", leaf(1)))
        first = log.lines()
        self.assertIs(type(first), list)
        log.do("put", [leaf(2)])
        self.assertEqual(len(first), 1)
        second = log.lines()
        self.assertEqual(second, ["   1  put       f  leaf:1", "   2  put       f  leaf:2"])
        second.clear()
        self.assertEqual(len(log.lines()), 2)
        self.assertEqual(len(log), 2)


if __name__ == "__main__":
    unittest.main()
