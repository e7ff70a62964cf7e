"""Point 10: disks and their stamps."""

import unittest

from redopages.errors import BadStamp, RedoError
from redopages.store import Disk
from samples import disk_of, leaf, node


class Stamps(unittest.TestCase):
    def test_a_new_disk(self):
        disk = Disk()
        self.assertEqual((disk[leaf(0)], disk[("", -1)], len(disk), disk.stamped()), (0, 0, 0, []))
        self.assertIs(leaf(0) in disk, False)
        self.assertEqual(len(disk), 0)

    def test_stamps_set_several_times(self):
        disk = Disk()
        for stamp in (3, 1, 12, 12, 0, 5):
            disk[leaf(1)] = stamp
            self.assertEqual(disk[leaf(1)], stamp)
            self.assertIs(leaf(1) in disk, stamp > 0)
            self.assertEqual(len(disk), 1 if stamp else 0)
            self.assertEqual(disk.stamped(), [leaf(1)] if stamp else [])
            self.assertEqual(disk[leaf(2)], 0)

    def test_pages_with_a_stamp_ascending(self):
        disk = disk_of({node(1): 2, leaf(10): 1, leaf(9): 4, leaf(3): 0, ("log", 5): 7})
        self.assertEqual(disk.stamped(), [leaf(9), leaf(10), ("log", 5), node(1)])
        self.assertEqual(len(disk), 4)
        self.assertEqual([page in disk for page in (node(1), leaf(10), leaf(3), leaf(4))], [True, True, False, False])

    def test_a_new_list_each_time(self):
        disk = disk_of({leaf(1): 2})
        disk.stamped().clear()
        self.assertEqual(disk.stamped(), [leaf(1)])

    def test_below_zero(self):
        disk = disk_of({leaf(1): 2})
        for page in (leaf(1), leaf(2)):
            for stamp in (-1, -7):
                with self.assertRaises(BadStamp) as caught:
                    disk[page] = stamp
                self.assertEqual((caught.exception.page, caught.exception.version), (page, stamp))
                self.assertIsInstance(caught.exception, RedoError)
                self.assertEqual((disk[leaf(1)], disk[leaf(2)], len(disk), disk.stamped()), (2, 0, 1, [leaf(1)]))

    def test_nothing_but_the_sign_is_checked(self):
        disk = disk_of({("no group", 70000): 100000})
        self.assertEqual(disk[("no group", 70000)], 100000)

    def test_a_disk_is_not_iterated_over(self):
        for disk in (Disk(), disk_of({leaf(1): 2})):
            self.assertRaises(TypeError, iter, disk)
            self.assertRaises(TypeError, list, disk)


class Equal(unittest.TestCase):
    def test_the_same_stamps_in_another_order(self):
        one = disk_of({leaf(1): 2, node(0): 3, leaf(7): 1})
        two = disk_of({leaf(7): 1, leaf(1): 5, node(0): 3})
        self.assertIs(one == two, False)
        self.assertIs(one != two, True)
        two[leaf(1)] = 2
        self.assertIs(one == two, True)
        self.assertIs(one != two, False)

    def test_a_stamp_of_zero_counts_as_none(self):
        for empty in (disk_of({leaf(1): 0}), disk_of({leaf(1): 0, node(2): 0}), Disk()):
            self.assertIs(Disk() == empty, True)
            self.assertIs(empty == Disk(), True)
        one = disk_of({leaf(1): 3})
        self.assertIs(one == Disk(), False)
        one[leaf(1)] = 0
        self.assertIs(one == Disk(), True)

    def test_one_page_more_or_less(self):
        one, two = disk_of({leaf(1): 2}), disk_of({leaf(1): 2, leaf(2): 2})
        self.assertIs(one == two, False)
        self.assertIs(two == one, False)
        self.assertIs(one == disk_of({leaf(2): 2}), False)

    def test_comparing_changes_nothing(self):
        one, two = disk_of({leaf(1): 2}), disk_of({leaf(2): 2})
        self.assertIs(one == two, False)
        self.assertEqual((one.stamped(), two.stamped()), ([leaf(1)], [leaf(2)]))


class Copied(unittest.TestCase):
    def test_neither_changes_with_the_other(self):
        disk = disk_of({leaf(1): 2, leaf(2): 1})
        twin = disk.copied()
        self.assertIs(type(twin), Disk)
        self.assertIsNot(twin, disk)
        self.assertIs(twin == disk, True)
        twin[leaf(1)] = 9
        twin[leaf(3)] = 4
        self.assertEqual((disk[leaf(1)], disk[leaf(3)], len(disk)), (2, 0, 2))
        disk[leaf(2)] = 0
        disk[leaf(5)] = 5
        self.assertEqual((twin[leaf(2)], twin[leaf(5)], twin.stamped()), (1, 0, [leaf(1), leaf(2), leaf(3)]))

    def test_a_copy_of_an_empty_disk_and_of_a_copy(self):
        twin = Disk().copied()
        twin[leaf(0)] = 1
        other = twin.copied()
        other[leaf(0)] = 2
        self.assertEqual((twin[leaf(0)], other[leaf(0)]), (1, 2))


if __name__ == "__main__":
    unittest.main()
