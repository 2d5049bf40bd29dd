"""Histories: what was done on a board, as a text that anybody can check."""

from greatestnext.errors import InvalidDeed, InvalidText
from greatestnext.moments import first_moment, moment_after, moment_with, need_free
from greatestnext.papers import Paper, count_of, read_rows, read_things, write_house, write_project


def entry_lines(entry):
    """Return the lines of this entry of a journal."""
    if entry[0] == "put":
        _, thing, project = entry
        return [f"put {thing}", write_project(project), "ready"]
    _, (word, thing), goal = entry
    return [f"take {thing}" if word == "take" else f"work {thing} {goal}"]


def hope_line(moment):
    """Return the line that tells the hope of this moment."""
    return f"hope {moment.hope_then().text()}"


def history(board):
    """Return the first house of the board, and all that stands, each with the hope behind it."""
    course = board.course()
    lines = [write_house(course[0].house_then)]
    for moment in course[1:]:
        lines.extend(entry_lines(moment.entry))
        lines.append(hope_line(moment))
    return "\n".join(lines)


def new_project(paper, moment, thing):
    """Return the moment behind the change of a project whose lines come next."""
    need_free(moment, thing)
    paper.at += 1
    project = read_rows(paper)
    paper.need("ready")
    return moment_with(moment, thing, project)


def deed_done(paper, moment, deed, goal):
    """Return the moment behind the deed of the next line."""
    after = moment_after(moment, deed, goal)
    paper.at += 1
    return after


def entry_done(paper, moment):
    """Return the moment behind the entry that comes next."""
    word, *parts = paper.ahead().split(" ")
    numbers = [count_of(part) for part in parts]
    try:
        if word == "work" and len(numbers) == 2:
            return deed_done(paper, moment, ("work", numbers[0]), numbers[1])
        if word == "take" and len(numbers) == 1:
            return deed_done(paper, moment, ("take", numbers[0]), None)
        if word == "put" and len(numbers) == 1:
            return new_project(paper, moment, numbers[0])
    except InvalidDeed:
        raise InvalidText(paper.passed, paper.at) from None
    raise InvalidText(paper.passed, paper.at)


def history_end(text):
    """Return the pair (standing, hope) at the end of this history, or raise InvalidText."""
    paper = Paper(text)
    moment = first_moment(read_things(paper))
    while not paper.is_over():
        moment = entry_done(paper, moment)
        paper.need(hope_line(moment))
    return (moment.standing_then, moment.hope_then())
