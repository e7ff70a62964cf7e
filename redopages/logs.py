"""Formulas for contents that nobody knows, the steps of a log, and logs."""

from redopages.errors import BadFormula, BadStep, NoRole, NoStep
from redopages.kinds import page_text

HIGHEST_PAGE = 9999


def misfit(kind, pages):
    """Return the index of the first page that does not fit the kind, -1 for a wrong number of pages, or None."""
    if len(pages) != len(kind.roles):
        return -1
    for at, (group, number) in enumerate(pages):
        if group != kind.roles[at].group or not 0 <= number <= HIGHEST_PAGE or pages[at] in pages[:at]:
            return at
    return None


class Contents:
    """A table of formulas, which numbers them 0, 1, 2 and so on."""

    def __init__(self):
        self.formulas = []
        self.places = {}

    def __len__(self):
        return len(self.formulas)

    def number_of(self, formula):
        """Return the number of the formula, and add the formula if it is new. Raises BadFormula."""
        if formula[0] == "derived":
            for number in formula[3]:
                self.require_number(number)
        if formula not in self.places:
            self.places[formula] = len(self.formulas)
            self.formulas.append(formula)
        return self.places[formula]

    def require_number(self, number):
        """Raise BadFormula unless the table has a formula with this number."""
        if not 0 <= number < len(self.formulas):
            raise BadFormula(number)

    def formula(self, number):
        """Return the formula with this number. Raises BadFormula."""
        self.require_number(number)
        return self.formulas[number]

    def text(self, number, *, depth=2):
        """Return the text of the formula, cut at the depth. Raises BadFormula."""
        word, *rest = self.formula(number)
        if word == "start":
            return page_text(rest[0])
        head = f"{rest[0]}.{rest[1]}"
        if word == "fresh" or not rest[2]:
            return f"{head}()"
        if depth < 1:
            return f"{head}(..)"
        inner = ", ".join([self.text(part, depth=depth - 1) for part in rest[2]])
        return f"{head}({inner})"


class Step:
    """A step of a log. Called on a state, it is done again there."""

    def __init__(self, number, kind, pages):
        self.number = number
        self.kind = kind
        self.pages = tuple(pages)

    def page_at(self, role):
        """Return the page in the role with this name. Raises NoRole."""
        for own, page in zip(self.kind.roles, self.pages):
            if own.name == role:
                return page
        raise NoRole(role)

    def read_pages(self):
        """Return the pages in the roles that read, in the order of the roles."""
        return [page for role, page in zip(self.kind.roles, self.pages) if role.reads()]

    def made_pages(self):
        """Return the pages in the roles that make, in the order of the roles."""
        return [page for role, page in zip(self.kind.roles, self.pages) if role.makes()]

    def made_formulas(self, numbers):
        """Return the formula for each page that is made, if these are the numbers of the contents read."""
        found = []
        for role in self.kind.roles:
            if role.derived():
                found.append(("derived", self.number, role.name, tuple(numbers)))
            elif role.makes():
                found.append(("fresh", self.number, role.name))
        return found

    def __call__(self, state):
        """Do the step again on the state, and return the list of the pages that it made again."""
        numbers = [state.content_of(page) for page in self.read_pages()]
        again = []
        for page, formula in zip(self.made_pages(), self.made_formulas(numbers)):
            if state.stamp_of(page) < self.number:
                again.append((page, state.contents.number_of(formula)))
        # A content that the table does not have has raised its error by now, before any page changes.
        for page, content in again:
            state.put(page, self.number, content)
        return [page for page, content in again]

    def line(self):
        """Return the text of the step: its number, its kind, and the mark and page of each role."""
        parts = [f"{self.number:>4}  {self.kind.name:<8}"]
        for role, page in zip(self.kind.roles, self.pages):
            parts.append(f"  {role.MARK:<2} {page_text(page):<13}")
        return "".join(parts).rstrip()


class Log:
    """The steps of a store, numbered from 1."""

    def __init__(self, catalog):
        self.catalog = catalog
        self.steps = []
        # For each page of the log the steps that name it, and the versions that they gave it.
        self.uses = {}
        self.made = {}

    def __len__(self):
        return len(self.steps)

    def __iter__(self):
        return iter(self.steps)

    def __getitem__(self, number):
        if not 1 <= number <= len(self.steps):
            raise NoStep(number)
        return self.steps[number - 1]

    def do(self, kind, pages):
        """Add a step and return its number. Raises NoKind and BadStep."""
        shape = self.catalog.named(kind)
        at = misfit(shape, pages)
        if at is not None:
            raise BadStep(kind, at)
        step = Step(len(self.steps) + 1, shape, pages)
        self.enter(step)
        return step.number

    def enter(self, step):
        """Put the next step at the end of the log."""
        self.steps.append(step)
        for page in step.pages:
            self.uses.setdefault(page, []).append(step)
        for page in step.made_pages():
            self.made.setdefault(page, []).append(step.number)

    def steps_with(self, page):
        """Return the list of the steps that name the page, in order."""
        return list(self.uses.get(page, []))

    def versions(self, page):
        """Return the ascending list of the versions of the page."""
        return [0, *self.made.get(page, [])]

    def last_version(self, page):
        """Return the version of the page after the last step."""
        return self.versions(page)[-1]

    def version_at(self, page, number):
        """Return the version of the page just after the step with this number. Raises NoStep."""
        if not 0 <= number <= len(self.steps):
            raise NoStep(number)
        return [version for version in self.versions(page) if version <= number][-1]

    def all_pages(self):
        """Return the ascending list of the pages of all steps."""
        return sorted(set(self.uses))

    def lines(self):
        """Return a new list with the text of each step."""
        return [step.line() for step in self.steps]

    def copied(self):
        """Return a new log with the same steps, to which steps are added without changing this one."""
        twin = Log(self.catalog)
        for step in list(self.steps):
            twin.enter(step)
        return twin
