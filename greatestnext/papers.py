"""Projects, families and houses as texts of several lines."""

from greatestnext.errors import Endless, InvalidFraction, InvalidProject, InvalidText
from greatestnext.families import MOST_THINGS, from_tops
from greatestnext.fracs import Frac
from greatestnext.houses import House
from greatestnext.projects import MOST_STATES, Project, clean_row
from greatestnext.things import is_part
from greatestnext.values import is_ascending, is_within


def row_line(row):
    """Return the line of this row of a project."""
    if row[0] == "void":
        return "void"
    if row[0] == "end":
        return f"end {row[1].text()}"
    goals = [f"{weight}:{state}" for weight, state in row[2]]
    return " ".join(["step", row[1].text(), *goals])


def write_project(project):
    """Return the text of the project: one line for each state."""
    return "\n".join([row_line(row) for row in project.rows])


def write_family(family):
    """Return the text of the family: its size and its full sets."""
    sets = [" ".join(["set", *[str(thing) for thing in held]]) for held in family.full_sets()]
    return "\n".join([f"family {family.size}", *sets])


def write_house(house):
    """Return the text of the house: its family, then each thing's project."""
    projects = [f"project {thing}\n{write_project(project)}" for thing, project in enumerate(house.projects)]
    return "\n".join([write_family(house.family), *projects])


class Paper:
    """A text that is read line by line; at is the number of the line that comes next."""

    def __init__(self, passed):
        if not isinstance(passed, str):
            raise InvalidText(passed, 0)
        self.passed = passed
        self.lines = passed.split("\n")
        self.at = 0

    def is_over(self):
        """Return whether there is no line left."""
        return self.at == len(self.lines)

    def ahead(self):
        """Return the next line, and "" behind the last one: an empty line is always wrong, too."""
        return "" if self.is_over() else self.lines[self.at]

    def need(self, line):
        """Go past the next line if it is this one, or raise that it is wrong or missing."""
        if self.ahead() != line:
            raise InvalidText(self.passed, self.at)
        self.at += 1

    def need_end(self):
        """Raise that the next line is wrong if there is one."""
        if not self.is_over():
            raise InvalidText(self.passed, self.at)


def frac_of(word):
    """Return the fraction that is written so, or None."""
    try:
        return Frac.read(word)
    except InvalidFraction:
        return None


def count_of(word):
    """Return the count that is written so, or None."""
    frac = frac_of(word)
    return None if frac is None or frac.den != 1 or frac.num < 0 else frac.num


def goal_of(word):
    """Return the pair (weight, state) that is written so, with None for what is no count."""
    weight, _, state = word.partition(":")
    return (count_of(weight), count_of(state))


def row_of(line):
    """Return the row of a project that is written so, or None."""
    word, *parts = line.split(" ")
    if word == "step" and len(parts) > 0:
        parts = [frac_of(parts[0]), [goal_of(part) for part in parts[1:]]]
    elif word == "end":
        parts = [frac_of(part) for part in parts]
    # Each state up to the last possible one may get its line later.
    return clean_row((word, *parts), MOST_STATES)


def read_rows(paper):
    """Return the project whose lines come next."""
    rows = []
    row = row_of(paper.ahead())
    while row is not None and len(rows) < MOST_STATES:
        rows.append(row)
        paper.at += 1
        row = row_of(paper.ahead())
    try:
        return Project(rows)
    except (InvalidProject, Endless):
        raise InvalidText(paper.passed, paper.at) from None


def read_project(text):
    """Return the project that is written so, or raise InvalidText."""
    paper = Paper(text)
    project = read_rows(paper)
    paper.need_end()
    return project


def size_of(line):
    """Return the size of the family in its first line, or None."""
    size = count_of(line.removeprefix("family "))
    return size if line.startswith("family ") and is_within(size, 1, MOST_THINGS) else None


def top_of(line, size, tops):
    """Return the full set that is written so, or None if it cannot stand behind these tops."""
    word, *parts = line.split(" ")
    things = tuple([count_of(part) for part in parts])
    if word != "set" or not is_ascending(things, size):
        return None
    if any([is_part(top, things) or (len(top), top) > (len(things), things) for top in tops]):
        return None
    return things


def read_sets(paper):
    """Return the family whose lines come next."""
    size = size_of(paper.ahead())
    if size is None:
        raise InvalidText(paper.passed, paper.at)
    paper.at += 1
    tops = []
    top = top_of(paper.ahead(), size, tops)
    while top is not None:
        tops.append(top)
        paper.at += 1
        top = top_of(paper.ahead(), size, tops)
    if len(tops) == 0:
        raise InvalidText(paper.passed, paper.at)
    return from_tops(size, tops)


def read_family(text):
    """Return the family that is written so, or raise InvalidText."""
    paper = Paper(text)
    family = read_sets(paper)
    paper.need_end()
    return family


def read_things(paper):
    """Return the house whose lines come next."""
    family = read_sets(paper)
    projects = []
    for thing in range(family.size):
        paper.need(f"project {thing}")
        projects.append(read_rows(paper))
    return House(projects, family)


def read_house(text):
    """Return the house that is written so, or raise InvalidText."""
    paper = Paper(text)
    house = read_things(paper)
    paper.need_end()
    return house
