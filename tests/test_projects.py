import copy
import itertools
import random

from greatestnext import projects
from greatestnext.errors import Endless, InvalidProject
from greatestnext.fracs import Frac
from greatestnext.projects import Project
from tests.checks import Checks, deep_list, deep_tuple
from tests.interface import defined_here, parameters

VOID = ("void",)
END = ("end", 1)
HUGE = 10 ** 399
ODD_VALUES = (None, True, False, 0, 1, -1, HUGE, "", "end", "void", "step", [], (), [()], Frac(1), [Frac(1)], (1, 2), [[[]]])


def step_to(*states):
    return ("step", 1, [(1, state) for state in states])


def eight(row):
    return [row] + [VOID] * 7


class ProjectChecks(Checks):
    def assert_error(self, kind, state, function, *arguments):
        self.assert_keeps(self.error_of(kind, function, *arguments), "state", state)

    def assert_invalid(self, state, rows):
        for passed in (rows, deep_list(rows), deep_tuple(rows)):
            with self.subTest(rows=passed):
                before = copy.deepcopy(passed)
                self.assert_error(InvalidProject, state, Project, passed)
                self.assertEqual(passed, before)

    def assert_endless(self, state, rows):
        for passed in (rows, deep_list(rows), deep_tuple(rows)):
            with self.subTest(rows=passed):
                self.assert_error(Endless, state, Project, passed)


class Interface(ProjectChecks):
    def test_defined_here(self):
        self.assertTrue(defined_here(projects, "Project"))
        for name in ("__init__", "__len__", "__eq__", "kind", "worth", "cost", "shares", "sure", "box"):
            self.assertIn(name, vars(Project))
        self.assertIsInstance(vars(Project)["sure"], classmethod)
        self.assertIsInstance(vars(Project)["box"], classmethod)

    def test_names_of_arguments(self):
        self.assertEqual(parameters(Project), ["rows"])
        for name in ("kind", "worth", "cost", "shares"):
            self.assertEqual(parameters(getattr(Project, name)), ["state"])
        self.assertEqual(parameters(Project.sure), ["worth"])
        self.assertEqual(parameters(Project.box), ["cost", "prizes"])


class Making(ProjectChecks):
    rows = [("step", 2, [(1, 0), (3, 1), (2, 3)]), ["end", Frac(-5, 3)], ["void"], ("step", Frac(1, 2), ([999, 2],))]
    clean = (
        ("step", Frac(2), ((1, 0), (3, 1), (2, 3))), ("end", Frac(-5, 3)), ("void",), ("step", Frac(1, 2), ((999, 2),)),
    )

    def test_rows(self):
        for rows in (self.rows, deep_list(self.rows), deep_tuple(self.rows)):
            project = Project(rows)
            self.assertEqual(project.rows, self.clean)
            self.assert_tuples(project.rows)
            self.assertEqual(Project(rows=rows), project)
            self.assertEqual(len(project), 4)

    def test_questions(self):
        project = Project(self.rows)
        self.assertEqual([project.kind(state) for state in range(4)], ["step", "end", "void", "step"])
        self.assertEqual(project.kind(state=2), "void")
        self.assertEqual(project.worth(1), Frac(-5, 3))
        self.assertEqual(project.worth(state=1), Frac(-5, 3))
        self.assertEqual(project.cost(0), Frac(2))
        self.assertEqual(project.cost(state=3), Frac(1, 2))
        self.assertEqual(project.shares(0), ((Frac(1, 6), 0), (Frac(1, 2), 1), (Frac(1, 3), 3)))
        self.assertEqual(project.shares(state=3), ((Frac(1), 2),))
        self.assert_tuples(project.shares(0))

    def test_integers_become_fractions(self):
        project = Project([("step", 0, [(1, 1)]), ("end", 0)])
        self.assertIs(type(project.rows[0][1]), Frac)
        self.assertIs(type(project.rows[1][1]), Frac)
        self.assertIs(type(project.cost(0)), Frac)
        self.assertIs(type(project.worth(1)), Frac)
        self.assertIs(type(project.shares(0)[0][0]), Frac)
        self.assertIs(type(project.rows[0][2][0][0]), int)

    def test_later_changes_have_no_effect(self):
        rows = deep_list(self.rows)
        project = Project(rows)
        rows[0][2][0][0] = 5
        rows[0][2].append([1, 2])
        rows[1][1] = 7
        rows[2].append(1)
        rows.pop()
        self.assertEqual(project.rows, self.clean)

    def test_what_is_passed_is_not_changed(self):
        rows = deep_list(self.rows)
        Project(rows)
        self.assertEqual(rows, deep_list(self.rows))
        prizes = [[1, 2], (3, Frac(4))]
        Project.box(1, prizes)
        self.assertEqual(prizes, [[1, 2], (3, Frac(4))])

    def test_rows_may_be_passed_again(self):
        project = Project(self.rows)
        self.assertEqual(Project(project.rows), project)

    def test_equality(self):
        project = Project(self.rows)
        self.assertIs(project == Project(deep_list(self.rows)), True)
        self.assertIs(project != Project(deep_list(self.rows)), False)
        self.assertIs(Project.sure(2) == Project([["end", Frac(4, 2)]]), True)
        others = [
            Project.sure(2), Project([*self.rows, VOID]), Project(self.rows[:3] + [("step", 1, [(999, 2)])]),
            Project(self.rows[:3] + [("step", Frac(1, 2), [(998, 2)])]), Project(self.rows[:2] + [END] + self.rows[3:]),
            Project(self.rows[:3] + [("step", Frac(1, 2), [(999, 1)])]),
        ]
        for other in others:
            self.assertIs(project == other, False)
            self.assertIs(other == project, False)
        # Shares may be the same where the weights, and so the rows, are not.
        self.assertIs(Project([step_to(1), VOID]) == Project([("step", 1, [(2, 1)]), VOID]), False)

    def test_equality_with_other_kinds(self):
        project = Project(self.rows)
        for value in (project.rows, deep_list(project.rows), *ODD_VALUES):
            self.assertIs(project == value, False)
            self.assertIs(value == project, False)
            self.assertIs(project != value, True)


class Shortcuts(ProjectChecks):
    def test_sure(self):
        self.assertEqual(Project.sure(6).rows, (("end", Frac(6)),))
        self.assertEqual(Project.sure(worth=Frac(-1, 2)).rows, (("end", Frac(-1, 2)),))
        self.assertIs(type(Project.sure(6)), Project)

    def test_sure_of_what_is_no_worth(self):
        for worth in (10000, -10000, Frac(1, 100), True, None, "1", [1]):
            self.assert_error(InvalidProject, 0, Project.sure, worth)

    def test_box(self):
        rows = (("step", Frac(1), ((2, 1), (5, 2), (1, 3))), ("end", Frac(10)), ("end", Frac(-1, 3)), ("end", Frac(10)))
        for prizes in ([(2, 10), (5, Frac(-1, 3)), (1, 10)], ([2, 10], [5, Frac(-1, 3)], [1, 10])):
            self.assertEqual(Project.box(1, prizes).rows, rows)
            self.assertEqual(Project.box(prizes=prizes, cost=Frac(1)).rows, rows)
            self.assert_tuples(Project.box(1, prizes).rows)

    def test_number_of_prizes(self):
        for many in range(1, 8):
            self.assertEqual(len(Project.box(0, [(1, 5)] * many)), many + 1)
        self.assert_error(InvalidProject, 0, Project.box, 1, [])
        self.assert_error(InvalidProject, None, Project.box, 1, [(1, 5)] * 8)

    def test_box_with_wrong_numbers(self):
        for cost in (-1, 10000, Frac(1, 100), True, None, "1"):
            self.assert_error(InvalidProject, 0, Project.box, cost, [(1, 5)])
        for weight in (0, -1, 1000, True, None, Frac(1)):
            self.assert_error(InvalidProject, 0, Project.box, 1, [(1, 5), (weight, 5)])
        for worth in (10000, -10000, Frac(1, 100), False, None, "5"):
            self.assert_error(InvalidProject, 2, Project.box, 1, [(1, 5), (1, worth), (1, worth)])


class Bounds(ProjectChecks):
    def test_worths(self):
        for worth in (0, 1, -1, 9999, -9999, Frac(9999, 98), Frac(-9998, 99), Frac(1, 99), Frac(19998, 2)):
            self.assertEqual(Project([VOID, ("end", worth)]).rows[1][0], "end")
        for worth in (10000, -10000, HUGE, -HUGE, Frac(10000), Frac(-10000, 99), Frac(10000, 3), Frac(1, 100), Frac(-1, 100),
                      Frac(1, HUGE), True, False, None, "1", "", [1], (1,), [], [Frac(1)]):
            self.assert_invalid(1, [VOID, ("end", worth)])

    def test_costs(self):
        for cost in (0, 1, 9999, Frac(0), Frac(9999, 98), Frac(1, 99)):
            self.assertEqual(Project([VOID, ("step", cost, [(1, 0)])]).rows[1][0], "step")
        for cost in (-1, -9999, 10000, HUGE, -HUGE, Frac(-1, 99), Frac(-1, 2), Frac(10000, 3), Frac(1, 100), True, False, None,
                     "1", [1], (1,), []):
            self.assert_invalid(1, [VOID, ("step", cost, [(1, 0)])])

    def test_weights(self):
        for weight in (1, 2, 998, 999):
            project = Project([VOID, ("step", 1, [(weight, 0)])])
            self.assertEqual(project.rows[1][2], ((weight, 0),))
        for weight in (0, -1, 1000, HUGE, -HUGE, True, False, None, "1", Frac(1), [1], (1,), []):
            self.assert_invalid(1, [VOID, ("step", 1, [(weight, 0)])])
            self.assert_invalid(1, [VOID, ("step", 1, [(1, 0), (weight, 1)])])

    def test_states_of_goals(self):
        for state in (-1, 3, 8, HUGE, -HUGE, True, False, None, "0", Frac(0), [0], (0,), []):
            self.assert_invalid(1, [VOID, ("step", 1, [(1, state)]), VOID])
        self.assertEqual(len(Project([VOID, ("step", 1, [(1, 2)]), VOID])), 3)

    def test_goals_ascend(self):
        self.assertEqual(len(Project([step_to(0, 1, 2), VOID, VOID])), 3)
        self.assertEqual(len(Project([step_to(0, 2), VOID, VOID])), 3)
        for states in ((1, 1), (2, 1), (0, 2, 2), (0, 2, 1), (1, 0), (0, 1, 2, 2), (2, 1, 0)):
            self.assert_invalid(0, [step_to(*states), VOID, VOID])

    def test_number_of_goals(self):
        for many in range(1, 9):
            project = Project(eight(step_to(*range(8 - many, 8))))
            self.assertEqual(len(project.rows[0][2]), many)
            self.assertEqual(len(project.shares(0)), many)
        for goals in ([], [(1, 0)] * 9, [(1, state) for state in range(9)], [(1, 1)] * 400):
            self.assert_invalid(0, eight(("step", 1, goals)))

    def test_number_of_rows(self):
        for many in range(1, 9):
            self.assertEqual(len(Project([VOID] * many)), many)
        for many in (0, 9, 10, 400):
            self.assert_invalid(None, [VOID] * many)


class WrongRows(ProjectChecks):
    def test_rows_of_other_kinds(self):
        for rows in (None, True, False, 0, 3, HUGE, "", "void", "abc", Frac(1), [], ()):
            self.assert_error(InvalidProject, None, Project, rows)

    def test_any_value_as_a_row(self):
        for row in ODD_VALUES:
            self.assert_invalid(2, [VOID, END, row, VOID])
            self.assert_invalid(0, [row])

    def test_any_value_as_a_part(self):
        fine = [("end", 1), ("void",), ("step", 1, [(1, 0)])]
        for row in fine:
            for at, value in itertools.product(range(len(row)), ODD_VALUES):
                wrong = (*row[:at], value, *row[at + 1:])
                if not is_fine(wrong):
                    self.assert_invalid(1, [END, wrong, None])
            for value in ODD_VALUES:
                self.assert_invalid(1, [END, (*row, value), None])
            if len(row) > 1:
                self.assert_invalid(1, [END, row[:-1]])
                self.assert_invalid(1, [END, row[1:]])

    def test_any_value_as_goals(self):
        for value in ODD_VALUES:
            self.assert_invalid(1, [END, ("step", 1, value)])
            self.assert_invalid(1, [END, ("step", 1, [value])])
            self.assert_invalid(1, [END, ("step", 1, [(1, 0), value])])
            self.assert_invalid(1, [END, ("step", 1, [(1, 0, value)])])
            self.assert_invalid(1, [END, ("step", 1, [(value,)])])
        self.assert_invalid(1, [END, ("step", 1, "10")])
        self.assert_invalid(1, [END, ("step", 1, ["10"])])
        self.assert_invalid(1, [END, ("step", 1, (1, 0))])

    def test_other_words(self):
        for word in ("End", "end ", "ends", "", "choose", "VOID", "steps", b"end"):
            self.assert_invalid(1, [VOID, (word, 1)])
            self.assert_invalid(1, [VOID, (word,)])
            self.assert_invalid(1, [VOID, (word, 1, [(1, 0)])])
        self.assert_invalid(0, [("choose", [(1, [(1, 1)])]), END])

    def test_the_first_wrong_row(self):
        self.assert_invalid(1, [END, None, ("end", "x"), None])
        self.assert_invalid(0, [("end",), ("end",)])
        self.assert_invalid(3, [END, step_to(0), VOID, ("end", 10000), 5])

    def test_wrong_rows_come_before_endless_ones(self):
        self.assert_invalid(1, [step_to(0), None])
        self.assert_invalid(2, [step_to(0), step_to(1), ("end", None)])
        self.assert_invalid(None, [step_to(0)] * 9)


class EndlessRows(ProjectChecks):
    def test_document_example(self):
        self.assert_endless(0, [("step", 1, [(1, 0)])])

    def test_first_endless_state(self):
        self.assert_endless(0, [step_to(1), step_to(0)])
        self.assert_endless(0, [step_to(1), step_to(1), END])
        self.assert_endless(1, [VOID, step_to(1)])
        self.assert_endless(1, [step_to(1, 2), step_to(1), VOID])
        self.assert_endless(2, [step_to(1), END, step_to(2, 3), step_to(2), VOID])
        self.assert_endless(7, [VOID] * 7 + [step_to(7)])
        self.assert_endless(6, [VOID] * 6 + [step_to(6), step_to(7)])

    def test_a_long_way(self):
        forth = [step_to(0, state + 1) for state in range(7)]
        back = [step_to(state - 1, 7) for state in range(1, 7)]
        self.assertEqual(len(Project(forth + [END])), 8)
        self.assertEqual(len(Project([VOID] + back + [step_to(6)])), 8)
        self.assertEqual(len(Project([END] + [step_to(state) for state in range(7)])), 8)
        self.assertEqual(len(Project([step_to(state + 1) for state in range(7)] + [VOID])), 8)
        self.assert_endless(0, forth + [step_to(0)])

    def test_like_a_search_from_each_state(self):
        draw = random.Random(2)
        seen = {None: 0}
        for _ in range(3000):
            many = draw.randint(1, 8)
            rows = []
            for _ in range(many):
                states = sorted(draw.sample(range(many), draw.randint(1, min(many, 2))))
                rows.append(step_to(*states) if draw.random() < 0.8 else draw.choice([VOID, END]))
            endless = first_without_way(rows)
            seen[endless] = seen.get(endless, 0) + 1
            if endless is None:
                self.assertEqual(len(Project(rows)), many)
            else:
                self.assert_error(Endless, endless, Project, rows)
        self.assertGreater(len(seen), 5)
        self.assertGreater(seen[None], 100)


def is_fine(row):
    """Return whether this row of a product of parts happens to be right."""
    amount = row[1:2] and type(row[1]) in (int, Frac) and row[1] not in (HUGE,)
    if row[0] == "end":
        return len(row) == 2 and amount
    if row[0] == "step":
        return len(row) == 3 and amount and row[1] != -1 and row[2] == [(1, 0)]
    return row == ("void",)


def first_without_way(rows):
    for start in range(len(rows)):
        todo, known = [start], {start}
        while todo and rows[todo[-1]][0] == "step":
            for _, goal in rows[todo.pop()][2]:
                if goal not in known:
                    known.add(goal)
                    todo.append(goal)
        if not todo:
            return start
    return None
