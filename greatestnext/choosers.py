"""Projects with choices: how they go on is decided in some states by a rule."""

from greatestnext.compare import worse_by_pairs
from greatestnext.errors import Endless, InvalidDeed, InvalidProject
from greatestnext.fracs import as_frac, greatest
from greatestnext.prices import game_worth, least_prices
from greatestnext.projects import Project, clean_row, first_endless
from greatestnext.values import is_row_of, is_within

MOST_ROWS = 6
MOST_CHOICES = 3
MOST_OPTIONS = 3


def clean_option(option, states):
    """Return the option (cost, goals) as tuples with fractions; None if it is none."""
    if not is_row_of(option, 2, 2):
        return None
    step = clean_row(("step", *option), states)
    return None if step is None else step[1:]


def clean_choice(row, states):
    """Return the row as tuples with fractions; None if it is neither a choice nor a row of a project."""
    if not is_row_of(row, 2, 2) or row[0] != "choose":
        return clean_row(row, states)
    if not is_row_of(row[1], 1, MOST_OPTIONS):
        return None
    options = [clean_option(option, states) for option in row[1]]
    return None if None in options else ("choose", tuple(options))


def clean_choices(rows):
    """Return the rows of a chooser as tuples with fractions, or raise which of them is wrong."""
    if not is_row_of(rows, 1, MOST_ROWS):
        raise InvalidProject(None)
    cleaned = []
    for state, row in enumerate(rows):
        clean = clean_choice(row, len(rows))
        if clean is None:
            raise InvalidProject(state)
        cleaned.append(clean)
        if len([kept for kept in cleaned if kept[0] == "choose"]) > MOST_CHOICES:
            raise InvalidProject(state)
    return tuple(cleaned)


def many_options(row):
    """Return between how many options a rule chooses in this row."""
    return len(row[1]) if row[0] == "choose" else 1


def rules_of(rows):
    """Return all rules for these rows, ascending."""
    found = [()]
    for row in rows:
        found = [(*rule, option) for rule in found for option in range(many_options(row))]
    return tuple(found)


def decided(rows, rule):
    """Return the rows in which each choice is the step that the rule chooses."""
    return [("step", *row[1][option]) if row[0] == "choose" else row for row, option in zip(rows, rule)]


class Chooser:
    """A project in some states of which there is a choice between steps."""

    def __init__(self, rows):
        self.rows = clean_choices(rows)
        for rule in rules_of(self.rows):
            endless = first_endless(decided(self.rows, rule))
            if endless is not None:
                raise Endless(endless)

    def rules(self):
        """Return all rules, ascending: one option's number for each state, 0 where there is no choice."""
        return rules_of(self.rows)

    def under(self, rule):
        """Return the project in which each choice is made by the rule."""
        if not is_rule(self.rows, rule):
            raise InvalidDeed(rule)
        return Project(decided(self.rows, rule))


def is_rule(rows, rule):
    """Return whether the value is a rule for these rows."""
    if not is_row_of(rule, len(rows), len(rows)):
        return False
    return all([is_within(option, 0, many_options(row) - 1) for row, option in zip(rows, rule)])


def best_game(chooser, state, price):
    """Return the greatest worth of the game at this price, over the rules."""
    return greatest([game_worth(chooser.under(rule), state, as_frac(price)) for rule in chooser.rules()])


def first_gap(pairs, others):
    """Return some price from 0 on at which these least prices are worth less than some of the others, or None."""
    for other in others:
        price = worse_by_pairs(pairs, other)
        if price is not None:
            return price
    return None


def pairs_by_rule(chooser):
    """Return the least prices from state 0 on under each rule."""
    return [least_prices(chooser.under(rule), 0) for rule in chooser.rules()]


def rule_gap(chooser, rule):
    """Return None if the rule is best at every price from 0 on, else some price at which it is not."""
    return first_gap(least_prices(chooser.under(rule), 0), pairs_by_rule(chooser))


def enough_rule(chooser):
    """Return the first rule without a gap, or None."""
    pairs = pairs_by_rule(chooser)
    for rule, own in zip(chooser.rules(), pairs):
        if first_gap(own, pairs) is None:
            return rule
    return None
