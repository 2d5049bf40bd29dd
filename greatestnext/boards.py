"""Boards: houses that are worked live, with what has been done and what can be taken back."""

from greatestnext.errors import NothingToUndo
from greatestnext.moments import first_moment, moment_after, moment_with
from greatestnext.worths import next_deed


class Board:
    """A house that is worked live."""

    def __init__(self, house):
        # Moments and their row are never changed, only replaced, so that a Trial can simply keep them.
        self.moments = (first_moment(house),)
        self.at = 0

    @property
    def house(self):
        """The house as it is now."""
        return self.moments[self.at].house_then

    @property
    def standing(self):
        """The standing as it is now."""
        return self.moments[self.at].standing_then

    @property
    def earned(self):
        """The sum of the gains of the deeds that stand."""
        return self.moments[self.at].earned_then

    def course(self):
        """Return the moments that stand, from the first one to the present one."""
        return self.moments[:self.at + 1]

    def go_on(self, moment):
        """Make this the present moment, and forget what was taken back."""
        course = self.course()
        self.moments = (*course, moment)
        self.at = len(course)

    def advice(self):
        """Return next_deed at the standing."""
        return next_deed(self.house, self.standing)

    def hope(self):
        """Return greedy_worth from the standing on."""
        return self.moments[self.at].hope_then()

    def do(self, deed, *, goal=None):
        """Do the deed, of which this goal came, and return the report (word, change)."""
        now = self.moments[self.at]
        then = moment_after(now, deed, goal)
        word = "advised" if then.entry[1] == self.advice() else "other"
        change = then.earned_then + then.hope_then() - now.earned_then - now.hope_then()
        self.go_on(then)
        return (word, change)

    def put_project(self, thing, project):
        """Make this the thing's project, in its state 0."""
        self.go_on(moment_with(self.moments[self.at], thing, project))

    def undo(self):
        """Take back the last deed or change of a project."""
        if self.at == 0:
            raise NothingToUndo("undo")
        self.at -= 1

    def redo(self):
        """Do again what was taken back last."""
        if self.at + 1 == len(self.moments):
            raise NothingToUndo("redo")
        self.at += 1

    def journal(self):
        """Return the entries that stand: ("do", deed, goal) and ("put", thing, project)."""
        return tuple([moment.entry for moment in self.course()[1:]])


class Trial:
    """A with statement over a board, behind which the board is as it was before."""

    def __init__(self, board):
        self.board = board
        self.moments = ()
        self.at = 0

    def __enter__(self):
        self.moments = self.board.moments
        self.at = self.board.at
        return self.board

    def __exit__(self, kind, value, trace):
        board = self.board
        board.moments = self.moments
        board.at = self.at


def foreseen(board, deeds):
    """Return the reports of these deeds (deed, goal), done one after the other and then taken back."""
    reports = []
    with Trial(board) as trial:
        for deed, goal in deeds:
            reports.append(trial.do(deed, goal=goal))
    return tuple(reports)
