"""Lots of waits: rules for the order in which pages are flushed."""

from redopages.errors import BadWait


def fits(row, catalog):
    """Tell whether the wait names two roles of one kind of the catalog, of which the second makes."""
    name, first, second = row
    for kind in catalog:
        if kind.name == name:
            roles = [role.name for role in kind.roles]
            makers = [role.name for role in kind.roles if role.makes()]
            return first in roles and second in makers
    return False


class Waits:
    """A lot of waits (kind, first, second), ascending, each once."""

    def __init__(self, rows):
        for row in rows:
            if row[1] == row[2]:
                raise BadWait(row)
        self.rows = tuple(sorted(set(rows)))

    def __len__(self):
        return len(self.rows)

    def __iter__(self):
        return iter(self.rows)

    def __contains__(self, row):
        return row in self.rows

    def __eq__(self, other):
        return isinstance(other, Waits) and self.rows == other.rows

    def __or__(self, other):
        return Waits(self.rows + other.rows)

    def __and__(self, other):
        return Waits([row for row in self.rows if row in other.rows])

    def __sub__(self, other):
        return Waits([row for row in self.rows if row not in other.rows])

    def within(self, other):
        """Tell whether the other lot has every wait of this lot."""
        return all([row in other.rows for row in self.rows])

    def require(self, catalog):
        """Raise BadWait for the first wait that is not valid for the catalog."""
        for row in self.rows:
            if not fits(row, catalog):
                raise BadWait(row)

    def after(self, kind, role):
        """Return the ascending list of the roles for which the role waits directly."""
        return [second for name, first, second in self.rows if name == kind and first == role]

    def reach(self, kind, role):
        """Return the ascending list of the roles to which a path of one or more waits leads."""
        found = set()
        ahead = self.after(kind, role)
        while ahead:
            name = ahead.pop()
            if name not in found:
                found.add(name)
                ahead.extend(self.after(kind, name))
        return sorted(found)

    def blocked(self, kind, role):
        """Tell whether the role reaches itself or a role that reaches itself."""
        # A role that reaches itself is among those that it reaches, so these are enough.
        return any([name in self.reach(kind, name) for name in self.reach(kind, role)])


def joined(*lots):
    """Return a new lot with all waits of the lots."""
    return Waits([row for lot in lots for row in lot.rows])
