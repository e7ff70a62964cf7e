"""All errors that the program raises."""


class RedoError(ValueError):
    """The base class of all errors of the program; never raised itself."""


class BadName(RedoError):
    """The string is not a name."""

    def __init__(self, name):
        self.name = name


class BadKind(RedoError):
    """The kind is not valid, or its name is already in the catalog."""

    def __init__(self, name):
        self.name = name


class NoKind(RedoError):
    """The catalog has no kind with this name."""

    def __init__(self, name):
        self.name = name


class NoRole(RedoError):
    """The kind has no role with this name."""

    def __init__(self, name):
        self.name = name


class BadStep(RedoError):
    """The pages do not fit the kind; at is an index, or -1 for a wrong number of pages."""

    def __init__(self, kind, at):
        self.kind = kind
        self.at = at


class NoStep(RedoError):
    """The log has no step with this number."""

    def __init__(self, number):
        self.number = number


class BadFormula(RedoError):
    """The table has no formula with this number."""

    def __init__(self, number):
        self.number = number


class BadStamp(RedoError):
    """The page cannot have this version."""

    def __init__(self, page, version):
        self.page = page
        self.version = version


class BadWait(RedoError):
    """The tuple is not a valid wait."""

    def __init__(self, row):
        self.row = row


class Held(RedoError):
    """The flush of the page is not allowed; behind lists its blockers, ascending."""

    def __init__(self, page, behind):
        self.page = page
        self.behind = list(behind)


class Newer(RedoError):
    """Redo found a page newer than the step read it; only ever the reason of a Broken."""

    def __init__(self, step, page, stood, stamp):
        self.step = step
        self.page = page
        self.stood = stood
        self.stamp = stamp


class Broken(RedoError):
    """Redo is not right for the page; newer is the reason, a Newer."""

    def __init__(self, page, due, found, newer):
        self.page = page
        self.due = due
        self.found = found
        self.newer = newer


class MutualWait(RedoError):
    """The kind has two roles each of which both reads and is derived."""

    def __init__(self, kind):
        self.kind = kind


class BadSlot(RedoError):
    """The tuple is not a slot of the catalog."""

    def __init__(self, row):
        self.row = row


class BadSize(RedoError):
    """The group has no size, or a size that is not from 1 to 1,000,000."""

    def __init__(self, group):
        self.group = group


class BadOrder(RedoError):
    """The list does not have each group of the catalog exactly once, and nothing else."""

    def __init__(self, order):
        self.order = list(order)


class OutOfTurn(RedoError):
    """The page cannot be taken now."""

    def __init__(self, page):
        self.page = page
