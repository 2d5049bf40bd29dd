"""Projects: states that cost something to work at, and end in a thing or in nothing."""

from greatestnext.errors import Endless, InvalidProject
from greatestnext.fracs import Frac, as_frac
from greatestnext.values import is_row_of, is_whole, is_within

MOST_STATES = 8
MOST_GOALS = 8
MOST_WEIGHT = 999
MOST_NUM = 9999
MOST_DEN = 99


def is_amount(value):
    """Return whether the value can be a worth: a fraction or integer within the bounds."""
    if not isinstance(value, Frac) and not is_whole(value):
        return False
    frac = as_frac(value)
    return -MOST_NUM <= frac.num <= MOST_NUM and frac.den <= MOST_DEN


def is_cost(value):
    """Return whether the value can be a cost: an amount from 0 on."""
    return is_amount(value) and as_frac(value).num >= 0


def are_goals(goals, states):
    """Return whether these are the goals of a step in rows of this many states."""
    if not is_row_of(goals, 1, MOST_GOALS):
        return False
    least = 0
    for goal in goals:
        if not is_row_of(goal, 2, 2):
            return False
        weight, state = goal
        if not is_within(weight, 1, MOST_WEIGHT) or not is_within(state, least, states - 1):
            return False
        least = state + 1
    return True


def clean_row(row, states):
    """Return the row as tuples with fractions; None if it is no row of this many states."""
    if not is_row_of(row, 1, 3):
        return None
    kind, *parts = row
    if kind == "void" and len(parts) == 0:
        return ("void",)
    if kind == "end" and len(parts) == 1 and is_amount(parts[0]):
        return ("end", as_frac(parts[0]))
    if kind == "step" and len(parts) == 2 and is_cost(parts[0]) and are_goals(parts[1], states):
        goals = [(weight, state) for weight, state in parts[1]]
        return ("step", as_frac(parts[0]), tuple(goals))
    return None


def first_endless(rows):
    """Return the first state from which no end and no void can be reached, or None."""
    closing = [row[0] != "step" for row in rows]
    # A way to an end or void that visits no state twice has fewer steps than there are rows.
    for _ in rows:
        closing = [closing[state] or is_step_into(row, closing) for state, row in enumerate(rows)]
    for state, closes in enumerate(closing):
        if not closes:
            return state
    return None


def is_step_into(row, marks):
    """Return whether some goal of this step is marked."""
    return any([marks[state] for _, state in row[2]])


def clean_rows(rows):
    """Return the rows of a project as tuples with fractions, or raise what is wrong."""
    if not is_row_of(rows, 1, MOST_STATES):
        raise InvalidProject(None)
    cleaned = []
    for state, row in enumerate(rows):
        clean = clean_row(row, len(rows))
        if clean is None:
            raise InvalidProject(state)
        cleaned.append(clean)
    endless = first_endless(cleaned)
    if endless is not None:
        raise Endless(endless)
    return tuple(cleaned)


class Project:
    """A project with one row for each state; state 0 is the first one."""

    def __init__(self, rows):
        self.rows = clean_rows(rows)

    def __len__(self):
        return len(self.rows)

    def __eq__(self, other):
        return isinstance(other, Project) and self.rows == other.rows

    def kind(self, state):
        """Return "end", "void" or "step"."""
        return self.rows[state][0]

    def worth(self, state):
        """Return the worth of the thing at this end."""
        return self.rows[state][1]

    def cost(self, state):
        """Return what working at this step costs."""
        return self.rows[state][1]

    def shares(self, state):
        """Return for each goal of this step the pair (share, state)."""
        goals = self.rows[state][2]
        weights = sum([weight for weight, _ in goals])
        return tuple([(Frac(weight, weights), goal) for weight, goal in goals])

    @classmethod
    def sure(cls, worth):
        """Return the project of one end."""
        return cls([("end", worth)])

    @classmethod
    def box(cls, cost, prizes):
        """Return the project of one step that leads to one end for each pair (weight, worth)."""
        goals = [(weight, at + 1) for at, (weight, _) in enumerate(prizes)]
        ends = [("end", worth) for _, worth in prizes]
        return cls([("step", cost, goals), *ends])
