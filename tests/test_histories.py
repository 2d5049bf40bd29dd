import random
import unittest

from greatestnext import histories
from greatestnext.boards import Board, Trial
from greatestnext.errors import InvalidText
from greatestnext.families import from_tops, uniform
from greatestnext.fracs import Frac
from greatestnext.histories import history, history_end
from greatestnext.houses import House, deeds, first_standing, outcomes
from greatestnext.papers import read_house, write_house, write_project
from greatestnext.projects import Project
from greatestnext.worths import greedy_worth
from tests.checks import Checks
from tests.interface import check_interface
from tests.samples import BOX, ODD_VALUES, RISKY, TRIES, bad_house, good_house, random_project

HOUSE = House([BOX, BOX, Project.sure(6)], uniform(3, 1))
HOUSE_LINES = (
    "family 3", "set 0", "set 1", "set 2", "project 0", "step 1 1:1 1:2", "end 0", "end 10", "project 1", "step 1 1:1 1:2", "end 0",
    "end 10", "project 2", "end 6",
)
LINES = (
    *HOUSE_LINES, "work 0 1", "hope 7", "put 1", "step 1 1:1 1:2", "end 10", "void", "ready", "hope 7", "work 1 2", "hope 6", "take 2",
    "hope 0",
)
START = len(HOUSE_LINES)


def busy_board(house, chance, calls):
    """Return a board of this house on which much has been done, and some of it taken back."""
    board = Board(house)
    for _ in range(calls):
        call = chance.random()
        possible = deeds(board.house, board.standing)[1:]
        if call < 0.6 and possible:
            deed = chance.choice(possible)
            after = chance.choice(outcomes(board.house, board.standing, deed))[1]
            board.do(deed, goal=after[1][deed[1]] if deed[0] == "work" else None)
        elif call < 0.8:
            free = [thing for thing in range(house.family.size) if thing not in board.standing[0]]
            if free:
                board.put_project(chance.choice(free), random_project(chance, 3))
        elif board.journal():
            board.undo()
            if call > 0.95:
                board.redo()
    return board


def own_history(first, board):
    """Return the history by the words of the document, done again on a board of its own."""
    again = Board(first)
    lines = [write_house(first)]
    for entry in board.journal():
        if entry[0] == "put":
            again.put_project(entry[1], entry[2])
            lines += [f"put {entry[1]}", write_project(entry[2]), "ready"]
        else:
            again.do(entry[1], goal=entry[2])
            lines.append(" ".join([entry[1][0], *[str(number) for number in (entry[1][1], entry[2]) if number is not None]]))
        lines.append("hope " + greedy_worth(again.house, at=again.standing).text())
    return "\n".join(lines)


class Interface(unittest.TestCase):
    def test_defined_here(self):
        check_interface(self, histories, {"history": ["board"], "history_end": ["text"]})


class Histories(Checks):
    def known_board(self):
        board = Board(HOUSE)
        board.do(("work", 0), goal=1)
        board.put_project(1, RISKY)
        board.do(("work", 1), goal=2)
        board.do(("take", 2))
        return board

    def test_known_one(self):
        board = self.known_board()
        self.assertEqual(history(board=board), "\n".join(LINES))
        standing, hope = history_end(text="\n".join(LINES))
        self.assertEqual([standing, hope], [((2,), (1, 2, 0)), Frac(0)])
        self.assertIs(type(history_end("\n".join(LINES))), tuple)

    def test_without_entries(self):
        text = history(Board(HOUSE))
        self.assertEqual(text, write_house(HOUSE))
        self.assertEqual(history_end(text), (((), (0, 0, 0)), Frac(15, 2)))
        board = self.known_board()
        for _ in range(4):
            board.undo()
        self.assertEqual(history(board), text)

    def test_undo_and_redo(self):
        board = self.known_board()
        board.undo()
        board.undo()
        self.assertEqual(history(board), "\n".join(LINES[:START + 8]))
        board.redo()
        self.assertEqual(history(board), "\n".join(LINES[:START + 10]))
        with Trial(board) as trial:
            trial.redo()
            self.assertEqual(history(trial), "\n".join(LINES))
        board.undo()
        board.do(("take", 2))
        self.assertEqual(history(board), "\n".join([*LINES[:START + 8], "take 2", "hope 0"]))
        self.assertEqual(history_end(history(board)), (((2,), (1, 0, 0)), Frac(0)))

    def test_always_such_a_text(self):
        chance = random.Random(111)
        for at in range(40):
            house = good_house(chance) if at % 2 else bad_house(chance)
            board = busy_board(house, chance, chance.randint(0, 12))
            text = history(board)
            self.assertEqual(text, own_history(house, board))
            self.assertEqual(history_end(text), (board.standing, board.hope()))
            self.assert_tuples(history_end(text)[0])
            self.assertIs(type(history_end(text)[1]), Frac)
            self.assertEqual(history(board), text)

    def test_cut_behind_any_hope(self):
        chance = random.Random(112)
        for at in range(12):
            board = busy_board(bad_house(chance) if at % 2 else good_house(chance), chance, 12)
            lines = history(board).split("\n")
            start = len(write_house(read_house("\n".join(self.house_lines(lines)))).split("\n"))
            while board.journal():
                self.assertEqual(history_end("\n".join(lines)), (board.standing, board.hope()))
                self.assertEqual(lines[-1], "hope " + board.hope().text())
                board.undo()
                lines.pop()
                while not lines[-1].startswith("hope") and len(lines) > start:
                    self.assert_short(lines)
                    lines.pop()
            self.assertEqual(history_end("\n".join(lines)), (first_standing(board.house), board.hope()))

    def house_lines(self, lines):
        """Return the lines before the first entry."""
        entries = [at for at, line in enumerate(lines) if line.split(" ")[0] in ("work", "take", "put")]
        return lines[:entries[0]] if entries else lines

    def assert_short(self, lines):
        text = "\n".join(lines)
        with self.assertRaises(InvalidText) as caught:
            history_end(text)
        self.assertEqual((caught.exception.value, caught.exception.line), (text, len(lines)))


class Wrong(Checks):
    def assert_wrong(self, lines, line):
        text = "\n".join(lines)
        error = self.error_of(InvalidText, history_end, text)
        self.assertIs(error.value, text)
        self.assertIs(type(error.line), int)
        self.assertEqual(error.line, line, text)

    def assert_each(self, at, wrong):
        """Check that each of these lines is wrong in the place of the one that stands there."""
        for line in wrong:
            self.assert_wrong([*LINES[:at], line, *LINES[at + 1:]], at)
            self.assert_wrong([*LINES[:at], line], at)

    def test_no_texts(self):
        for value in [*[value for value in ODD_VALUES if not isinstance(value, str)], b"family 1", list(LINES), LINES, {"family": 1}]:
            error = self.error_of(InvalidText, history_end, value)
            self.assertIs(error.value, value)
            self.assertEqual(error.line, 0)

    def test_empty_lines(self):
        self.assertEqual(self.error_of(InvalidText, history_end, "").line, 0)
        for at in range(len(LINES) + 1):
            self.assert_wrong([*LINES[:at], "", *LINES[at:]], at)

    def test_blanks(self):
        for at, line in enumerate(LINES):
            for wrong in {line + " ", " " + line, line.replace(" ", "  "), line.replace(" ", "\t"), line + "\r", line.upper()} - {line}:
                self.assert_each(at, [wrong])

    def test_too_short(self):
        hopes = [at + 1 for at, line in enumerate(LINES) if line.startswith("hope")]
        for many in range(1, len(LINES)):
            if many not in hopes and many != START:
                self.assert_wrong(LINES[:many], many)
            else:
                history_end("\n".join(LINES[:many]))

    def test_lines_of_the_house(self):
        self.assert_each(0, ["family 0", "family 03", "work 0 1", "hope 7"])
        self.assert_each(2, ["set 0", "set 3", "project 1", "set 0 1"])
        self.assert_each(4, ["project 1", "work 0 1", "take 2", "put 0", "hope 7"])
        self.assert_each(5, ["step 1 1:1 1:8", "end 10000", "work 0 1", "project 0"])
        self.assert_each(8, ["project 2", "work 0 1", "put 1", "hope 15/2", "ready"])
        self.assert_wrong([*LINES[:5], "step 1 1:3", *LINES[6:]], 8)
        self.assert_wrong([*LINES[:12], *LINES[START:]], 12)
        self.assert_wrong([*LINES[:13], *LINES[START:]], 13)

    def test_entries_that_cannot_be_done(self):
        wrong = [
            "stop", "work", "work 0", "work 0 0", "work 0 3", "work 0 1 1", "work 3 1", "work 2 0", "work 00 1", "work 0 01", "work +0 1",
            "work -0 1", "work 0 -1", "work 0 1/1", "work 0 1.0", "work 0 2/2", "work a 1", "work 0 a", "work 0:1", "Work 0 1", "work 0 8",
            "take", "take 0", "take 3", "take 02", "take 2 0", "take 1", "take -1", "takes 2", "put", "put 3", "put 01", "put 1 1", "put -1",
            "hope 15/2", "hope 7", "ready", "end 1", "end 01", "void 1", "project 3", "project 0", "set 2", "family 3", "step 1 1:1 1:9", "1", "work 1/2 1",
        ]
        self.assert_each(START, [line for line in wrong if line != "end 1"])
        # Behind the first entry thing 0 is at an end, and no row can follow.
        wrong.remove("take 0")
        self.assert_each(START + 2, wrong)
        self.assert_each(START + 8, [*wrong, "work 1 0"])
        self.assert_each(START + 10, wrong)
        # One more row belongs to the last project of the house.
        self.assert_wrong([*LINES[:START], "end 1", "end 1", *LINES[START + 1:]], START + 2)

    def test_things_that_are_taken(self):
        for line in ("put 2", "take 2", "work 2 0", "take 0"):
            self.assert_wrong([*LINES, line], len(LINES))
            self.assert_wrong([*LINES, line, "end 1", "ready", "hope 0"], len(LINES))
        house = write_house(House([BOX, Project.sure(6)], from_tops(2, [(0, 1)]))).split("\n")
        entry = [*house, "take 1", "hope 4"]
        self.assertEqual(history_end("\n".join(entry)), (((1,), (0, 0)), Frac(4)))
        for line in ("put 1", "take 1", "work 1 0"):
            self.assert_wrong([*entry, line, "end 1", "ready", "hope 4"], len(entry))

    def test_new_projects(self):
        at = START + 3
        self.assert_each(at, ["end 10000", "ready", "hope 7", "work 0 1", "step 1 1:1 1:8", "project 1", "step 1 0:1", "put 1"])
        self.assert_wrong([*LINES[:at + 3], *LINES[at + 4:]], at + 3)
        self.assert_each(at + 3, ["Ready", "hope 7", "project 2", "work 0 2", "ready 1", "end 01", "put 1"])
        # A goal without a line, and a project without an end, are found out where ready stands.
        self.assert_wrong([*LINES[:at], "step 1 1:3", *LINES[at + 1:]], at + 3)
        self.assert_wrong([*LINES[:at], "step 1 1:0", *LINES[at + 1:]], at + 3)
        self.assert_wrong([*LINES[:at], *["void"] * 9, "ready", "hope 7"], at + 8)
        eight = "\n".join([*LINES[:at], *["void"] * 8, "ready", "hope 6"])
        self.assertEqual(history_end(eight), (((), (1, 0, 0)), Frac(6)))

    def test_hopes(self):
        wrong = ["hope", "hope 8", "hope 07", "hope 7/1", "hope 14/2", "hope +7", "hope -7", "hope 7 7", "hope 7.0", "Hope 7", "hopes 7", "7",
                 "hope 70", "hope 6", "hope 13/2", "work 1 1", "take 2", "ready", "end 7", "hope a"]
        self.assert_each(START + 1, wrong)
        self.assert_each(START + 7, wrong)
        self.assert_each(START + 11, [*wrong, "hope -0", "hope 00", "hope 0/1"])
        # Without its hope an entry is followed by a wrong line.
        for at, line in enumerate(LINES):
            if line.startswith("hope"):
                self.assert_wrong([*LINES[:at], *LINES[at + 1:]], at)

    def test_hope_is_greedy_worth(self):
        house = House([Project.sure(5), Project.sure(5), Project.sure(6), TRIES], from_tops(4, [(0, 1), (2, 3)]))
        lines = [*write_house(house).split("\n"), "work 3 0", "hope " + greedy_worth(house).text()]
        self.assertEqual(history_end("\n".join(lines)), (((), (0, 0, 0, 0)), greedy_worth(house)))
        self.assertEqual(greedy_worth(house).text(), "14")
        self.assert_wrong([*lines[:-1], "hope 10"], len(lines) - 1)

    def test_fractions(self):
        house = House([Project.sure(Frac(15, 2)), BOX], uniform(2, 2))
        lines = [*write_house(house).split("\n"), "work 1 1", "hope 15/2"]
        self.assertEqual(history_end("\n".join(lines)), (((), (0, 1)), Frac(15, 2)))
        for hope in ("hope 30/4", "hope 7.5", "hope 15/02", "hope 15/2 ", "hope +15/2", "hope -15/2", "hope 15/-2"):
            self.assert_wrong([*lines[:-1], hope], len(lines) - 1)


class Basics(Checks):
    def test_a_board_is_not_changed(self):
        board = Board(HOUSE)
        board.do(("work", 0), goal=1)
        board.do(("work", 1), goal=1)
        board.undo()
        before = (board.standing, board.earned, board.journal(), board.hope())
        history(board)
        self.assertEqual((board.standing, board.earned, board.journal(), board.hope()), before)
        board.redo()
        self.assertEqual(board.standing, ((), (1, 1, 0)))

    def test_later_changes_do_not_show(self):
        board = Board(HOUSE)
        board.do(("work", 0), goal=1)
        text = history(board)
        board.do(("take", 2))
        self.assertEqual(text, "\n".join([*HOUSE_LINES, "work 0 1", "hope 7"]))
