"""Linear equations in which each unknown is given by the others."""

from greatestnext.fracs import Frac


def solved(bases, factors):
    """Return all x where x[at] is bases[at] plus the sum of factor * x[other] over the pairs of factors[at]."""
    worths = list(bases)
    rows = [dict_of(pairs) for pairs in factors]
    left = list(range(len(rows)))
    order = []
    while len(left) > 0:
        # The shortest row first keeps the others short: without loops they never grow.
        at = min(left, key=lambda place: len(rows[place]))
        left.remove(at)
        order.append(at)
        free_of_itself(worths, rows, at)
        for user in left:
            replace_in(worths, rows, user, at)
    for at in order[::-1]:
        for other, factor in rows[at].items():
            worths[at] = worths[at] + factor * worths[other]
    return worths


def dict_of(pairs):
    """Return the pairs (factor, other) as a dict, with the factors of the same other added up."""
    row = {}
    for factor, other in pairs:
        add_to(row, other, factor)
    return row


def add_to(row, other, factor):
    """Add the factor of the other unknown to the row."""
    row[other] = row[other] + factor if other in row else factor


def free_of_itself(worths, rows, at):
    """Rewrite the row of this unknown so that it does not use the unknown itself."""
    own = rows[at].pop(at, None)
    if own is None:
        return
    scale = Frac(1).divided_by(Frac(1) - own)
    worths[at] = worths[at] * scale
    rows[at] = {other: factor * scale for other, factor in rows[at].items()}


def replace_in(worths, rows, user, at):
    """Replace the unknown at by its row in the row of the user."""
    row = rows[user]
    share = row.pop(at, None)
    if share is None:
        return
    worths[user] = worths[user] + share * worths[at]
    for other, factor in rows[at].items():
        add_to(row, other, share * factor)
