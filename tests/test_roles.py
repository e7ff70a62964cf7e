"""Points 3 and 4: names, groups, the text of a page, and the classes of roles."""

import unittest

from redopages.errors import BadKind, BadName, RedoError
from redopages.kinds import Both, Fresh, Made, Read, Renewed, Role, page_text

CLASSES = (Role, Read, Made, Fresh, Both, Renewed)

# The class, its direct bases, MARK, reads, makes, derived, and the words behind the group.
TABLE = (
    (Role, (object,), "", False, False, False, []),
    (Read, (Role,), "r", True, False, False, ["read"]),
    (Made, (Role,), "m", False, True, True, ["made"]),
    (Fresh, (Role,), "f", False, True, False, ["fresh"]),
    (Both, (Read, Made), "rm", True, True, True, ["made", "read"]),
    (Renewed, (Read, Fresh), "rf", True, True, False, ["fresh", "read"]),
)

# For each class all the classes of roles to which its objects belong.
BELONGS = {
    Role: (Role,),
    Read: (Role, Read),
    Made: (Role, Made),
    Fresh: (Role, Fresh),
    Both: (Role, Read, Made, Both),
    Renewed: (Role, Read, Fresh, Renewed),
}

GOOD_NAMES = ("a", "z", "q", "az", "leaf", "zzzzzzz", "abcdefgh", "stuvwxyz", "ijklmnop", "read")


def bad_names():
    """The strings that a name is not: wrong lengths, and each other sign in the place of a letter."""
    names = ["", "Leaf", "leaF", "LEAF", " leaf", "leaf ", "a ", "        "]
    names += ["abcdefghijklmnopqrst"[:many] for many in range(9, 21)]
    for code in range(ord(" "), ord("~") + 1):
        sign = chr(code)
        if sign != "%" and not "a" <= sign <= "z":
            for word in ("a", "leaf", "abcdefgh"):
                names += [word[:at] + sign + word[at + 1:] for at in range(len(word))]
    return names


class PageText(unittest.TestCase):
    def test_the_text_is_the_group_and_the_number(self):
        self.assertEqual(page_text(("leaf", 3)), "leaf:3")

    def test_the_number_has_no_leading_zeros(self):
        rows = [(("a", 0), "a:0"), (("leaf", 10), "leaf:10"), (("abcdefgh", 9999), "abcdefgh:9999")]
        for page, text in rows:
            self.assertEqual(page_text(page), text)


class Names(unittest.TestCase):
    def test_names_and_groups_of_one_to_eight_letters(self):
        for shape in CLASSES:
            for name in GOOD_NAMES:
                with self.subTest(shape.__name__, name=name):
                    role = shape(name, "leaf")
                    self.assertEqual((role.name, role.group), (name, "leaf"))
                    role = shape("old", name)
                    self.assertEqual((role.name, role.group), ("old", name))

    def test_each_letter_may_stand_in_a_name(self):
        for letter in "abcdefghijklmnopqrstuvwxyz":
            for name in (letter, letter * 8, "ab" + letter):
                role = Made(name, name)
                self.assertEqual((role.name, role.group), (name, name))

    def test_name_and_group_may_be_equal(self):
        for shape in CLASSES:
            role = shape("leaf", "leaf")
            self.assertEqual((role.name, role.group), ("leaf", "leaf"))

    def test_parameters_may_be_given_by_name(self):
        for shape in CLASSES:
            role = shape(group="leaf", name="old")
            self.assertEqual((role.name, role.group), ("old", "leaf"))

    def test_a_wrong_name_raises_bad_name(self):
        for shape in CLASSES:
            for name in bad_names():
                with self.subTest(shape.__name__, name=name):
                    with self.assertRaises(BadName) as caught:
                        shape(name, "leaf")
                    self.assertEqual(caught.exception.name, name)

    def test_a_wrong_group_raises_bad_name(self):
        for shape in CLASSES:
            for group in bad_names():
                with self.subTest(shape.__name__, group=group):
                    with self.assertRaises(BadName) as caught:
                        shape("old", group)
                    self.assertEqual(caught.exception.name, group)

    def test_the_name_is_looked_at_before_the_group(self):
        for shape in CLASSES:
            for name, group in [("Old", "Leaf"), ("", "x y"), ("abcdefghi", ""), ("old ", "leaf ")]:
                with self.subTest(shape.__name__, name=name):
                    with self.assertRaises(BadName) as caught:
                        shape(name, group)
                    self.assertEqual(caught.exception.name, name)

    def test_bad_name_is_a_redo_error_and_a_value_error_and_no_bad_kind(self):
        for name, group in [("Old", "leaf"), ("old", "Leaf")]:
            with self.assertRaises(ValueError) as caught:
                Read(name, group)
            self.assertIsInstance(caught.exception, BadName)
            self.assertIsInstance(caught.exception, RedoError)
            self.assertNotIsInstance(caught.exception, BadKind)


class Classes(unittest.TestCase):
    def test_the_table_of_the_classes(self):
        for shape, bases, mark, reads, makes, derived, words in TABLE:
            with self.subTest(shape.__name__):
                role = shape("old", "leaf")
                self.assertEqual(shape.__bases__, bases)
                self.assertEqual((shape.MARK, role.MARK), (mark, mark))
                self.assertIs(role.reads(), reads)
                self.assertIs(role.makes(), makes)
                self.assertIs(role.derived(), derived)
                self.assertEqual(role.words(), ["leaf", *words])

    def test_words_begin_with_the_group_and_do_not_name_the_role(self):
        for shape, _, _, _, _, _, words in TABLE:
            self.assertEqual(shape("read", "made").words(), ["made", *words])

    def test_words_are_a_new_list_each_time(self):
        for shape, _, _, _, _, _, words in TABLE:
            with self.subTest(shape.__name__):
                role = shape("old", "leaf")
                first = role.words()
                self.assertIs(type(first), list)
                self.assertIsNot(first, role.words())
                first.append("more")
                first[0] = "node"
                self.assertEqual(role.words(), ["leaf", *words])
                self.assertEqual(shape("new", "node").words(), ["node", *words])
                self.assertEqual(role.group, "leaf")

    def test_to_which_classes_a_role_belongs(self):
        for shape in CLASSES:
            role = shape("old", "leaf")
            for other in CLASSES:
                with self.subTest(shape.__name__, other=other.__name__):
                    self.assertIs(isinstance(role, other), other in BELONGS[shape])

    def test_asking_a_role_does_not_change_it(self):
        for shape in CLASSES:
            role = shape("old", "leaf")
            before = dict(vars(role))
            for ask in (role.reads, role.makes, role.derived, role.words, role.imaged):
                ask()
            self.assertEqual(vars(role), before)


class Imaged(unittest.TestCase):
    def test_a_made_role_gives_a_fresh_one(self):
        role = Made("new", "leaf")
        image = role.imaged()
        self.assertIs(type(image), Fresh)
        self.assertEqual((image.name, image.group, image.MARK), ("new", "leaf", "f"))
        self.assertEqual((role.MARK, role.derived()), ("m", True))

    def test_a_role_of_both_gives_a_renewed_one(self):
        role = Both("old", "node")
        image = role.imaged()
        self.assertIs(type(image), Renewed)
        self.assertEqual((image.name, image.group, image.MARK), ("old", "node", "rf"))
        self.assertEqual((role.MARK, role.derived()), ("rm", True))

    def test_any_other_role_gives_itself(self):
        for shape in (Role, Read, Fresh, Renewed):
            role = shape("old", "leaf")
            self.assertIs(role.imaged(), role)

    def test_an_image_gives_itself(self):
        for shape in (Made, Both):
            image = shape("old", "leaf").imaged()
            self.assertIs(image.imaged(), image)
            self.assertIs(image.derived(), False)


if __name__ == "__main__":
    unittest.main()
