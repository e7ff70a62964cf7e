"""The web of a catalog: edges between the groups of the roles that waits or dangers name."""


def group_at(catalog, kind, role):
    """Return the group of the role with this name of the kind with this name."""
    return catalog.named(kind).role_named(role).group


def edges_of(catalog, rows):
    """Return for each row (kind, first, second) the tuple of the row and the groups of its two roles."""
    return [(row, group_at(catalog, row[0], row[1]), group_at(catalog, row[0], row[2])) for row in rows]


def unled(groups, edges):
    """Return those of the groups to which no edge leads from one of the groups."""
    led = [end for row, start, end in edges if start in groups]
    return [group for group in groups if group not in led]


def forward_order(groups, edges):
    """Return an order in which each edge leads forward, and the groups left that are on a cycle or behind one."""
    order = []
    left = list(groups)
    free = unled(left, edges)
    while free:
        order.extend(free)
        left = [group for group in left if group not in free]
        free = unled(left, edges)
    return order, left


def cycle_rows(groups, edges):
    """Return the rows of a cycle, each before the one that leads to it; to each of the groups leads an edge."""
    walked = []
    rows = []
    group = groups[0]
    while group not in walked:
        walked.append(group)
        back = [(row, start) for row, start, end in edges if end == group and start in groups]
        rows.append(back[0][0])
        group = back[0][1]
    # The walk may have begun behind the cycle that it found.
    return rows[walked.index(group):]
