import copy
import inspect
import random
import unittest

from greatestnext import boards
from greatestnext.boards import Board, Trial, foreseen
from greatestnext.errors import InvalidDeed, NothingToUndo, TooMany
from greatestnext.families import from_tops, uniform
from greatestnext.fracs import Frac
from greatestnext.houses import House, deeds, first_standing, gain, outcomes
from greatestnext.projects import Project
from greatestnext.worths import greedy_worth, next_deed
from tests.checks import Checks
from tests.interface import check_interface
from tests.reckon import fraction
from tests.samples import BOX, ODD_VALUES, RISKY, TRIES, VAIN, bad_house, good_house, random_project

HOUSE = House([BOX, BOX, Project.sure(6)], uniform(3, 1))
PAIR = House([BOX, RISKY, Project.sure(6)], from_tops(3, [(0, 1), (2,)]))
STOP = ("stop",)


class Model:
    """A board by the words of the document: it goes through its journal anew for each question."""

    def __init__(self, house):
        self.first = house
        self.entries = []
        self.undone = []

    def now(self):
        """Return the house, the standing and the sum of the gains."""
        house, standing, earned = self.first, first_standing(self.first), Frac(0)
        for entry in self.entries:
            taken, states = standing
            if entry[0] == "put":
                projects = list(house.projects)
                projects[entry[1]] = entry[2]
                house = House(projects, house.family)
                standing = (taken, tuple(0 if at == entry[1] else state for at, state in enumerate(states)))
                continue
            _, (word, thing), goal = entry
            earned = earned + gain(house, standing, entry[1])
            if word == "take":
                standing = (tuple(sorted([*taken, thing])), states)
            else:
                standing = (taken, tuple(goal if at == thing else state for at, state in enumerate(states)))
        return house, standing, earned

    def add(self, entry):
        self.entries.append(entry)
        self.undone = []


def photo(board):
    """Return all that a board shows, with all that can be taken back and done again."""
    seen = [(board.house.projects, board.house.family, board.standing, board.earned, board.advice(), board.hope(), board.journal())]
    back = forth = 0
    while True:
        try:
            board.undo()
        except NothingToUndo:
            break
        back += 1
        seen.append((board.house.projects, board.standing, board.earned, board.journal()))
    while True:
        try:
            board.redo()
        except NothingToUndo:
            break
        forth += 1
        seen.append((board.house.projects, board.standing, board.earned, board.journal()))
    for _ in range(forth - back):
        board.undo()
    return seen


class Interface(unittest.TestCase):
    def test_defined_here(self):
        check_interface(self, boards, {"Board": ["house"], "Trial": ["board"], "foreseen": ["board", "deeds"]})
        for name in ("__init__", "advice", "hope", "do", "put_project", "undo", "redo", "journal"):
            self.assertIn(name, vars(Board))
        for name in ("house", "standing", "earned"):
            self.assertIsInstance(vars(Board)[name], property)
        for name in ("__init__", "__enter__", "__exit__"):
            self.assertIn(name, vars(Trial))
        self.assertEqual([*inspect.signature(Board.do).parameters], ["self", "deed", "goal"])
        self.assertEqual([*inspect.signature(Board.put_project).parameters], ["self", "thing", "project"])

    def test_goal_by_name_only(self):
        with self.assertRaises(TypeError):
            Board(HOUSE).do(("work", 0), 1)


class BoardChecks(Checks):
    def assert_board(self, board, house, standing, earned, journal):
        self.assertEqual(board.house.projects, house.projects)
        self.assertEqual(board.house.family, house.family)
        self.assertEqual(board.standing, standing)
        self.assert_tuples(board.standing)
        self.assertIs(type(board.earned), Frac)
        self.assertEqual(board.earned, earned)
        self.assertEqual(board.advice(), next_deed(house, standing))
        self.assertEqual(board.hope(), greedy_worth(house, at=standing))
        self.assertEqual(board.journal(), tuple(journal))
        self.assert_tuples(board.journal())

    def assert_kept(self, board, call, kind):
        """Return the error of the call, which changes nothing."""
        before = photo(board)
        error = self.error_of(kind, call)
        self.assertEqual(photo(board), before)
        return error


class Deeds(BoardChecks):
    def test_new_board(self):
        board = Board(house=HOUSE)
        self.assert_board(board, HOUSE, ((), (0, 0, 0)), Frac(0), [])
        self.assertIs(board.house, HOUSE)

    def test_known_ones(self):
        board = Board(HOUSE)
        word, change = board.do(("work", 0), goal=1)
        self.assertEqual([word, change.text()], ["advised", "-3/2"])
        self.assert_board(board, HOUSE, ((), (1, 0, 0)), Frac(-1), [("do", ("work", 0), 1)])
        word, change = board.do(deed=["take", 2], goal=None)
        # The hope of 7 is given up for the 6.
        self.assertEqual([word, change.text()], ["other", "-1"])
        self.assert_board(board, HOUSE, ((2,), (1, 0, 0)), Frac(5), [("do", ("work", 0), 1), ("do", ("take", 2), None)])
        self.assertEqual(board.advice(), STOP)
        word, change = board.do(("work", 1), goal=2)
        self.assertEqual([word, change.text()], ["other", "-1"])
        self.assertEqual(board.earned, Frac(4))

    def test_reports(self):
        chance = random.Random(101)
        words = {"advised": 0, "other": 0}
        for at in range(40):
            house = good_house(chance) if at % 2 else bad_house(chance)
            board = Board(house)
            standing = first_standing(house)
            for _ in range(6):
                possible = deeds(house, standing)[1:]
                if not possible:
                    break
                deed = chance.choice([*possible, next_deed(house, standing)])
                if deed == STOP:
                    break
                after = chance.choice(outcomes(house, standing, deed))[1]
                goal = after[1][deed[1]] if deed[0] == "work" else None
                hope = greedy_worth(house, at=standing)
                report = board.do(list(deed), goal=goal)
                self.assertIs(type(report), tuple)
                word, change = report
                self.assertEqual(word, "advised" if deed == next_deed(house, standing) else "other")
                self.assertEqual(change, gain(house, standing, deed) + greedy_worth(house, at=after) - hope)
                words[word] += 1
                standing = after
                self.assertEqual(board.standing, standing)
        self.assertGreater(min(words.values()), 20)

    def test_advised_deeds_change_nothing_in_the_mean(self):
        chance = random.Random(102)
        tried = 0
        for at in range(30):
            house = good_house(chance) if at % 2 else bad_house(chance)
            board = Board(house)
            while board.advice() != STOP and len(board.journal()) < 6:
                deed = board.advice()
                mean = 0
                for share, after in outcomes(house, board.standing, deed):
                    goal = after[1][deed[1]] if deed[0] == "work" else None
                    (word, change), = foreseen(board, [(deed, goal)])
                    self.assertEqual(word, "advised")
                    mean += fraction(share) * fraction(change)
                self.assertEqual(mean, 0)
                tried += 1
                board.do(deed, goal=goal)
        self.assertGreater(tried, 30)

    def test_other_deeds_do_not_gain_in_the_mean(self):
        house = House([VAIN, TRIES], uniform(2, 1))
        board = Board(house)
        for deed in deeds(house, board.standing)[1:]:
            changes = []
            for share, after in outcomes(house, board.standing, deed):
                (_, change), = foreseen(board, [(deed, after[1][deed[1]])])
                changes.append(fraction(share) * fraction(change))
            self.assertLessEqual(sum(changes), 0)


class NewProjects(BoardChecks):
    def test_known_ones(self):
        board = Board(HOUSE)
        board.do(("work", 0), goal=1)
        self.assertIsNone(board.put_project(thing=0, project=RISKY))
        house = House([RISKY, BOX, Project.sure(6)], uniform(3, 1))
        journal = [("do", ("work", 0), 1), ("put", 0, RISKY)]
        self.assert_board(board, house, ((), (0, 0, 0)), Frac(-1), journal)
        self.assertIs(board.journal()[1][2], RISKY)
        self.assertEqual(HOUSE.projects[0], BOX)
        board.do(("work", 0), goal=2)
        board.put_project(2, TRIES)
        journal += [("do", ("work", 0), 2), ("put", 2, TRIES)]
        self.assert_board(board, House([RISKY, BOX, TRIES], uniform(3, 1)), ((), (2, 0, 0)), Frac(-2), journal)

    def test_things_that_are_taken_or_none(self):
        board = Board(HOUSE)
        board.do(("take", 2))
        board.put_project(1, RISKY)
        board.undo()
        for thing in [*[value for value in ODD_VALUES if value not in (0, 1) or type(value) is not int], 2, 3, -1, 10 ** 399, "1", Frac(1)]:
            error = self.assert_kept(board, lambda: board.put_project(thing, TRIES), InvalidDeed)
            self.assertIs(error.deed, thing)

    def test_a_thing_that_cannot_be_added(self):
        board = Board(PAIR)
        board.do(("take", 2))
        board.put_project(0, Project.sure(100))
        self.assertEqual([board.advice(), board.hope().text()], [STOP, "0"])


class Wrong(BoardChecks):
    def test_deeds(self):
        board = Board(PAIR)
        board.do(("work", 0), goal=2)
        board.do(("take", 0))
        board.put_project(1, VAIN)
        board.undo()
        wrong = [
            *ODD_VALUES, STOP, ["stop"], ("work", 0), ("take", 0), ("take", 1), ("take", 2), ("work", 2), ("work", 3), ("work", True),
            ("rest", 1), ("work", 1, 1), ("work",), (1, "work"), ("stop", 1),
        ]
        for deed in wrong:
            for goal in (None, 1, "no goal"):
                before = copy.deepcopy(deed)
                error = self.assert_kept(board, lambda: board.do(deed, goal=goal), InvalidDeed)
                self.assertIs(error.deed, deed)
                self.assertEqual(deed, before)

    def test_goals(self):
        board = Board(PAIR)
        board.do(("work", 0), goal=1)
        board.put_project(2, VAIN)
        board.undo()
        for goal in [*[value for value in ODD_VALUES if type(value) is not int or value not in (1, 2)], 0, 3, -1, "1", 1.0, (1,), Frac(1)]:
            error = self.assert_kept(board, lambda: board.do(("work", 1), goal=goal), InvalidDeed)
            self.assertIs(error.deed, goal)
        self.assertIsNone(self.assert_kept(board, lambda: board.do(("work", 1)), InvalidDeed).deed)
        for goal in [*[value for value in ODD_VALUES if value is not None], 2, 1, 3, ("take", 0)]:
            error = self.assert_kept(board, lambda: board.do(("take", 0), goal=goal), InvalidDeed)
            self.assertIs(error.deed, goal)

    def test_nothing_to_undo(self):
        board = Board(HOUSE)
        for _ in range(2):
            self.assertEqual(self.assert_kept(board, board.undo, NothingToUndo).what, "undo")
            self.assertEqual(self.assert_kept(board, board.redo, NothingToUndo).what, "redo")
        board.do(("take", 2))
        self.assertEqual(self.assert_kept(board, board.redo, NothingToUndo).what, "redo")
        board.undo()
        self.assertEqual(self.assert_kept(board, board.undo, NothingToUndo).what, "undo")


class UndoAndRedo(BoardChecks):
    def test_there_and_back(self):
        board = Board(HOUSE)
        board.do(("work", 0), goal=1)
        board.put_project(1, RISKY)
        board.do(("take", 2))
        first, second, third = board.journal()
        put = House([BOX, RISKY, Project.sure(6)], uniform(3, 1))
        states = [
            (HOUSE, ((), (0, 0, 0)), Frac(0), []), (HOUSE, ((), (1, 0, 0)), Frac(-1), [first]),
            (put, ((), (1, 0, 0)), Frac(-1), [first, second]), (put, ((2,), (1, 0, 0)), Frac(5), [first, second, third]),
        ]
        for _ in range(2):
            for state in states[2::-1]:
                self.assertIsNone(board.undo())
                self.assert_board(board, *state)
            for state in states[1:]:
                self.assertIsNone(board.redo())
                self.assert_board(board, *state)

    def test_what_was_taken_back_is_forgotten(self):
        for again in (lambda board: board.do(("take", 2)), lambda board: board.put_project(0, VAIN)):
            board = Board(HOUSE)
            board.do(("work", 0), goal=1)
            board.do(("work", 1), goal=1)
            board.undo()
            board.undo()
            again(board)
            self.assertEqual(self.assert_kept(board, board.redo, NothingToUndo).what, "redo")
            self.assertEqual(len(board.journal()), 1)
            board.undo()
            self.assertEqual(board.journal(), ())
            board.redo()
            self.assertEqual(len(board.journal()), 1)

    def test_and_only_then(self):
        board = Board(HOUSE)
        board.do(("work", 0), goal=1)
        board.undo()
        self.error_of(InvalidDeed, board.do, ("work", 0), goal=0)
        self.error_of(InvalidDeed, board.do, STOP)
        self.error_of(InvalidDeed, board.put_project, 3, VAIN)
        self.error_of(NothingToUndo, board.undo)
        board.advice(), board.hope(), board.journal(), board.house, board.standing, board.earned
        foreseen(board, [(("take", 2), None)])
        with Trial(board):
            board.put_project(1, VAIN)
        board.redo()
        self.assert_board(board, HOUSE, ((), (1, 0, 0)), Frac(-1), [("do", ("work", 0), 1)])


class AgainstTheModel(BoardChecks):
    def step(self, board, model, chance):
        """Do some call on both, a wrong one now and then."""
        house, standing, _ = model.now()
        call = chance.choice(["do", "do", "do", "do", "put", "undo", "undo", "redo", "redo", "wrong"])
        if call == "do":
            deed = chance.choice(deeds(house, standing))
            if deed == STOP:
                self.error_of(InvalidDeed, board.do, deed)
                return
            after = chance.choice(outcomes(house, standing, deed))[1]
            goal = after[1][deed[1]] if deed[0] == "work" else None
            board.do(deed, goal=goal)
            model.add(("do", deed, goal))
        elif call == "put":
            thing = chance.randrange(len(house.projects))
            project = random_project(chance, 3)
            if thing in standing[0]:
                self.error_of(InvalidDeed, board.put_project, thing, project)
            else:
                board.put_project(thing, project)
                model.add(("put", thing, project))
        elif call == "wrong":
            self.error_of(InvalidDeed, board.do, ("work", len(house.projects)), goal=0)
        else:
            rows = (model.entries, model.undone) if call == "undo" else (model.undone, model.entries)
            if rows[0]:
                self.assertIsNone(getattr(board, call)())
                rows[1].append(rows[0].pop())
            else:
                self.assertEqual(self.error_of(NothingToUndo, getattr(board, call)).what, call)

    def test_some_calls(self):
        chance = random.Random(103)
        for at in range(14):
            house = good_house(chance) if at % 2 else bad_house(chance)
            board, model = Board(house), Model(house)
            for _ in range(40):
                self.step(board, model, chance)
                self.assert_board(board, *model.now(), model.entries)


class Trials(BoardChecks):
    def some_board(self):
        board = Board(HOUSE)
        board.do(("work", 0), goal=1)
        board.put_project(1, RISKY)
        board.do(("work", 1), goal=2)
        board.undo()
        return board

    def changes(self):
        """Return some ways to change the board of some_board."""
        return (
            lambda board: None, lambda board: board.do(("take", 2)), lambda board: board.put_project(0, VAIN),
            lambda board: board.undo(), lambda board: board.redo(), lambda board: (board.undo(), board.undo(), board.do(("take", 2))),
            lambda board: (board.undo(), board.put_project(2, VAIN), board.undo(), board.undo()),
        )

    def test_back_as_it_was(self):
        for change in self.changes():
            board = self.some_board()
            before = photo(board)
            with Trial(board) as trial:
                self.assertIs(trial, board)
                change(trial)
            self.assertEqual(photo(board), before)
            with Trial(board=board):
                change(board)
            self.assertEqual(photo(board), before)

    def test_the_block_sees_its_changes(self):
        board = self.some_board()
        with Trial(board) as trial:
            trial.do(("take", 2))
            self.assertEqual([board.standing, len(board.journal()), board.earned.text()], [((2,), (1, 0, 0)), 3, "5"])
            board.undo()
            self.assertEqual(len(trial.journal()), 2)

    def test_errors_go_on(self):
        for change in self.changes():
            for error in (KeyError("own"), ValueError(), InvalidDeed(5), StopIteration(), KeyboardInterrupt()):
                board = self.some_board()
                before = photo(board)
                with self.assertRaises(type(error)) as caught:
                    with Trial(board) as trial:
                        change(trial)
                        raise error
                self.assertIs(caught.exception, error)
                self.assertEqual(photo(board), before)

    def test_as_when_the_block_began(self):
        board = self.some_board()
        trial = Trial(board)
        board.do(("take", 2))
        before = photo(board)
        with trial as held:
            self.assertIs(held, board)
            board.undo()
            board.put_project(0, VAIN)
        self.assertEqual(photo(board), before)

    def test_trials_inside_trials(self):
        board = self.some_board()
        before = photo(board)
        with Trial(board):
            board.do(("take", 2))
            inside = photo(board)
            with Trial(board):
                board.undo()
                board.undo()
            self.assertEqual(photo(board), inside)
            foreseen(board, [(("work", 0), 1)] if board.standing[1][0] == 0 else [])
        self.assertEqual(photo(board), before)

    def test_leaving_the_block(self):
        board = self.some_board()
        before = photo(board)

        def left():
            with Trial(board) as trial:
                trial.do(("take", 2))
                return trial.standing

        self.assertEqual(left(), ((2,), (1, 0, 0)))
        self.assertEqual(photo(board), before)


class Foreseen(BoardChecks):
    def test_same_reports(self):
        chance = random.Random(104)
        for at in range(20):
            house = good_house(chance) if at % 2 else bad_house(chance)
            done = Board(house)
            pairs, reports = [], []
            for _ in range(chance.randint(0, 5)):
                possible = deeds(house, done.standing)[1:]
                if possible:
                    deed = chance.choice(possible)
                    after = chance.choice(outcomes(house, done.standing, deed))[1]
                    pairs.append((deed, after[1][deed[1]] if deed[0] == "work" else None))
                    reports.append(done.do(deed, goal=pairs[-1][1]))
            board = Board(house)
            before = photo(board)
            for passed in (pairs, tuple(pairs), [[list(deed), goal] for deed, goal in pairs]):
                copied = copy.deepcopy(passed)
                found = foreseen(board=board, deeds=passed)
                self.assertEqual(found, tuple(reports))
                self.assert_tuples(found)
                self.assertEqual(passed, copied)
                self.assertEqual(photo(board), before)

    def test_none(self):
        self.assertEqual(foreseen(Board(HOUSE), []), ())

    def test_errors(self):
        board = Board(HOUSE)
        board.do(("work", 0), goal=1)
        board.undo()
        for deed, value, goal in ((("work", 3), ("work", 3), 1), (["stop"], ["stop"], None), (("work", 1), 5, 5), (("take", 2), 0, 0)):
            error = self.assert_kept(board, lambda: foreseen(board, [(("work", 0), 1), (deed, goal)]), InvalidDeed)
            self.assertEqual(error.deed, value)
        board.redo()
        self.assertEqual(board.journal(), (("do", ("work", 0), 1),))


class Basics(BoardChecks):
    def test_two_boards_of_one_house(self):
        one, other = Board(HOUSE), Board(HOUSE)
        one.do(("work", 0), goal=1)
        one.put_project(1, VAIN)
        one.undo()
        self.assert_board(other, HOUSE, ((), (0, 0, 0)), Frac(0), [])
        self.error_of(NothingToUndo, other.redo)
        other.do(("take", 2))
        self.assert_board(one, HOUSE, ((), (1, 0, 0)), Frac(-1), [("do", ("work", 0), 1)])
        with Trial(one):
            one.undo()
            other.undo()
        self.assertEqual([one.journal(), other.journal()], [(("do", ("work", 0), 1),), ()])

    def test_later_changes_have_no_effect(self):
        board = Board(HOUSE)
        deed = ["work", 0]
        board.do(deed, goal=2)
        deed[1] = 1
        self.assertEqual(board.journal(), (("do", ("work", 0), 2),))
        journal = board.journal()
        board.do(("take", 0))
        self.assertEqual(journal, (("do", ("work", 0), 2),))

    def test_too_many_rows(self):
        # The board itself does not ask how many rows there are; hope and reports do.
        boxes = [Project.box(0, [(1, 3 * at + first) for at in range(7)]) for first in range(6)]
        board = Board(House(boxes, uniform(6, 2)))
        self.assertEqual(board.advice(), ("work", 5))
        self.assertEqual(self.error_of(TooMany, board.hope).what, "rows")
        self.error_of(TooMany, board.do, ("work", 0), goal=1)
        self.assertEqual([board.journal(), board.standing], [(), ((), (0,) * 6)])

    def test_equal_calls(self):
        one, other = Board(HOUSE), Board(House(list(HOUSE.projects), uniform(3, 1)))
        for board in (one, other):
            board.do(("work", 1), goal=2)
        self.assertEqual(photo(one), photo(other))
        self.assertEqual(photo(one), photo(one))
