"""Redo after a crash, and whether it gave each page the content that it had."""

from redopages.errors import Broken, Newer
from redopages.store import require_stamps


def history(log, contents):
    """Return the number of the formula of each page of the log in each of its versions."""
    found = {(page, 0): contents.number_of(("start", page)) for page in log.all_pages()}
    for step in log:
        before = step.number - 1
        numbers = [found[(page, log.version_at(page, before))] for page in step.read_pages()]
        for page, formula in zip(step.made_pages(), step.made_formulas(numbers)):
            found[(page, step.number)] = contents.number_of(formula)
    return found


class State:
    """The stamps and contents of the pages during redo, at first those on the disk."""

    def __init__(self, log, disk, contents):
        require_stamps(log, disk)
        originals = history(log, contents)
        self.contents = contents
        self.stamps = {page: disk[page] for page in log.all_pages()}
        self.numbers = {page: originals[(page, disk[page])] for page in log.all_pages()}

    def stamp_of(self, page):
        """Return the stamp of the page."""
        return self.stamps.get(page, 0)

    def content_of(self, page):
        """Return the number of the formula of the content of the page."""
        if page in self.numbers:
            return self.numbers[page]
        return self.contents.number_of(("start", page))

    def put(self, page, stamp, content):
        """Set the stamp of the page and the number of the formula of its content."""
        self.stamps[page] = stamp
        self.numbers[page] = content


def redo(log, disk, contents):
    """Return the state after redo. Raises BadStamp."""
    state = State(log, disk, contents)
    for step in log:
        step(state)
    return state


def first_unlike(log, number, taken, originals):
    """Return the first page of which redo took another content for the step, and the version that it read."""
    rows = [(page, log.version_at(page, number - 1)) for page in log[number].read_pages()]
    unlike = [row for row, content in zip(rows, taken[number]) if content != originals[row]]
    return unlike[0]


def reason(log, disk, page, taken, originals):
    """Return the Newer that made redo wrong for the page."""
    number = log.last_version(page)
    found, stood = first_unlike(log, number, taken, originals)
    # A page that is older than the step on the disk was itself made again, from a wrong content.
    while disk[found] < number:
        number = stood
        found, stood = first_unlike(log, number, taken, originals)
    return Newer(number, found, stood, disk[found])


def check(log, disk, contents):
    """Return None if redo is right. Raises BadStamp, and Broken for the first page that is not right."""
    state = State(log, disk, contents)
    originals = history(log, contents)
    taken = {}
    for step in log:
        taken[step.number] = [state.content_of(page) for page in step.read_pages()]
        step(state)
    for page in log.all_pages():
        due = originals[(page, log.last_version(page))]
        found = state.content_of(page)
        if found != due:
            newer = reason(log, disk, page, taken, originals)
            raise Broken(page, due, found, newer) from newer
