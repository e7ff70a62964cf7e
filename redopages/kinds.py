"""Pages, the roles of pages in steps, kinds of steps and catalogs of kinds."""

from redopages.errors import BadKind, BadName, NoKind, NoRole

LONGEST_NAME = 8
MOST_ROLES = 6


def page_text(page):
    """Return the text of a page, for example leaf:3 for ("leaf", 3)."""
    group, number = page
    return f"{group}:{number}"


def require_name(text):
    """Raise BadName unless the text has 1 to 8 letters from a to z and nothing else."""
    letters = [sign for sign in text if "a" <= sign <= "z"]
    if not 1 <= len(text) <= LONGEST_NAME or len(letters) < len(text):
        raise BadName(text)


def first_repeated(names):
    """Return the first name in the list that also stands earlier in it, or None."""
    for at, name in enumerate(names):
        if name in names[:at]:
            return name
    return None


class Role:
    """What a step does with one of its pages: the base class does nothing with it."""

    MARK = ""

    def __init__(self, name, group):
        require_name(name)
        require_name(group)
        self.name = name
        self.group = group

    def reads(self):
        """Tell whether the step uses the content that the page had before."""
        return False

    def makes(self):
        """Tell whether the step gives the page a new content."""
        return False

    def derived(self):
        """Tell whether the new content is computed from the pages that the step reads."""
        return False

    def words(self):
        """Return a new list: the group, and a word for each thing that the role does."""
        return [self.group]

    def imaged(self):
        """Return the role whose page is written out in the log as a whole."""
        return self


class Read(Role):
    """The step reads the page."""

    MARK = "r"

    def reads(self):
        return True

    def words(self):
        return super().words() + ["read"]


class Fresh(Role):
    """The step makes the page, and its new content is written out in the log."""

    MARK = "f"

    def makes(self):
        return True

    def words(self):
        return super().words() + ["fresh"]


class Renewed(Read, Fresh):
    """The step reads the page and makes it from what is written out in the log."""

    MARK = "rf"


class Made(Role):
    """The step makes the page from the pages that it reads."""

    MARK = "m"

    def makes(self):
        return True

    def derived(self):
        return True

    def words(self):
        return super().words() + ["made"]

    def imaged(self):
        return Fresh(self.name, self.group)


class Both(Read, Made):
    """The step reads the page and makes it from the pages that it reads."""

    MARK = "rm"

    def imaged(self):
        return Renewed(self.name, self.group)


class Kind:
    """A kind of step: a name and its roles."""

    def __init__(self, name, roles):
        require_name(name)
        names = [role.name for role in roles]
        if not 1 <= len(roles) <= MOST_ROLES or first_repeated(names) is not None:
            raise BadKind(name)
        if not any([role.makes() for role in roles]):
            raise BadKind(name)
        self.name = name
        self.roles = tuple(roles)

    def role_named(self, name):
        """Return the role with this name. Raises NoRole."""
        for role in self.roles:
            if role.name == name:
                return role
        raise NoRole(name)

    def pairs(self):
        """Return the pairs of names of two roles where the first reads and the second is derived."""
        readers = [role.name for role in self.roles if role.reads()]
        derived = [role.name for role in self.roles if role.derived()]
        return [(first, second) for first in readers for second in derived if first != second]


class Catalog:
    """The kinds of steps of a store, each name once."""

    def __init__(self, kinds):
        repeated = first_repeated([kind.name for kind in kinds])
        if repeated is not None:
            raise BadKind(repeated)
        self.kinds = tuple(kinds)

    def __len__(self):
        return len(self.kinds)

    def __iter__(self):
        return iter(self.kinds)

    def named(self, name):
        """Return the kind with this name. Raises NoKind."""
        for kind in self.kinds:
            if kind.name == name:
                return kind
        raise NoKind(name)

    def groups(self):
        """Return the ascending list of the groups of all roles."""
        return sorted(set([role.group for kind in self.kinds for role in kind.roles]))

    def made_groups(self):
        """Return the ascending list of the groups of all roles that make."""
        return sorted(set([role.group for kind in self.kinds for role in kind.roles if role.makes()]))
