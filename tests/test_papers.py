import random
import unittest

from greatestnext import papers
from greatestnext.errors import InvalidText
from greatestnext.families import Family, exchange_fault, from_tops, uniform
from greatestnext.fracs import Frac
from greatestnext.houses import House
from greatestnext.papers import read_family, read_house, read_project, write_family, write_house, write_project
from greatestnext.projects import Project
from tests.checks import Checks
from tests.interface import check_interface
from tests.samples import BOX, FAMILIES, FOURS, FULL, NAMED, ODD_VALUES, random_family, random_house, some_projects

HOUSE = House([BOX, Project([("void",)]), Project.sure(Frac(-1, 2))], from_tops(3, [(0, 1), (2,)]))
HOUSE_LINES = (
    "family 3", "set 2", "set 0 1", "project 0", "step 1 1:1 1:2", "end 0", "end 10", "project 1", "void", "project 2", "end -1/2",
)
HOUSE_TEXT = "\n".join(HOUSE_LINES)
# What no number may look like, where "1" would do.
NO_COUNTS = ("", "01", "+1", "-1", "1.0", "1/1", "2/2", "1e0", "0x1", "one", "1_0", "-0", "00", " 1", "1\t", "1\r", "\u0661", "\u00b2", "1,", "1/2", "()")
NO_FRACS = (
    "", "01", "+1", "-0", "1/1", "2/4", "1/0", "0/1", "-0/1", "1/-2", "1/02", "01/2", "1//2", "1/2/3", "/2", "1/", "1.5", "1e2",
    "--1", "- 1", "one", "\u0661", "1/\u0662", "1\t", "1\r", "1:1", "0x1", "+1/2", "6/3",
)


def far(number):
    """Return a text of about 400 digits."""
    return str(number) * 400


class Interface(unittest.TestCase):
    def test_defined_here(self):
        check_interface(self, papers, {
            "write_project": ["project"], "write_family": ["family"], "write_house": ["house"],
            "read_project": ["text"], "read_family": ["text"], "read_house": ["text"],
        })


class Readings(Checks):
    def assert_wrong(self, read, text, line):
        error = self.error_of(InvalidText, read, text)
        self.assertIs(error.value, text)
        self.assertIs(type(error.line), int)
        self.assertEqual(error.line, line, text)

    def assert_each(self, read, lines, at, wrong):
        """Check that each of these lines is wrong in the place of the one that stands there."""
        read("\n".join(lines))
        for line in wrong:
            self.assert_wrong(read, "\n".join([*lines[:at], line, *lines[at + 1:]]), at)
            self.assert_wrong(read, "\n".join([*lines[:at], line]), at)

    def assert_no_text(self, read):
        for value in ODD_VALUES:
            if not isinstance(value, str):
                self.assert_wrong(read, value, 0)
        for value in (b"end 1", ["end 1"], ("family 1", "set"), {"end": 1}, 5):
            self.assert_wrong(read, value, 0)

    def assert_empty_lines(self, read, lines):
        self.assert_wrong(read, "", 0)
        for at in range(len(lines)):
            self.assert_wrong(read, "\n".join([*lines[:at], "", *lines[at:]]), at)
        self.assert_wrong(read, "\n".join([*lines, ""]), len(lines))
        self.assert_wrong(read, "\n" * 5, 0)

    def assert_blanks(self, read, lines):
        for at, line in enumerate(lines):
            spoilt = [line + " ", " " + line, line.replace(" ", "  "), line.replace(" ", "\t"), line + "\r", line.upper(), line + "\t", line + "\n"]
            for wrong in spoilt:
                if wrong != line:
                    where = at + 1 if wrong == line + "\n" else at
                    self.assert_wrong(read, "\n".join([*lines[:at], wrong, *lines[at + 1:]]), where)


class Projects(Readings):
    def test_known_ones(self):
        known = (
            (BOX, "step 1 1:1 1:2\nend 0\nend 10"), (Project([("void",)]), "void"), (Project.sure(Frac(-7, 2)), "end -7/2"),
            (Project([("end", -9999), ("step", Frac(9999, 98), [(999, 0), (1, 2)]), ("void",)]), "end -9999\nstep 9999/98 999:0 1:2\nvoid"),
        )
        for project, text in known:
            self.assertEqual(write_project(project=project), text)
            self.assertEqual(read_project(text=text), project)

    def test_there_and_back(self):
        for project in [*NAMED, *some_projects(60, 8, 91)]:
            text = write_project(project)
            self.assertNotIn("%", text)
            self.assertTrue(text.isascii())
            self.assertEqual(read_project(text), project)
            self.assertEqual(write_project(read_project(text)), text)
            self.assertEqual(len(text.split("\n")), len(project))

    def test_no_texts(self):
        self.assert_no_text(read_project)

    def test_empty_lines_and_blanks(self):
        lines = write_project(FULL).split("\n")
        self.assert_empty_lines(read_project, lines)
        self.assert_blanks(read_project, lines)

    def test_words(self):
        wrong = [
            "", " ", "End 1", "end", "end 1 1", "end 1 ", "void 1", "void void", "Void", "step", "step 1", "step 1 ", "step 1:1", "step 1:1 1",
            "steps 1 1:1", "choose 1 1:1", "ready", "project 0", "set", "set 0", "family 1", "hope 1", "work 0 1", "end\t1", "1", "end end", "end,1",
        ]
        self.assert_each(read_project, ("step 1 1:1", "end 5"), 0, wrong)
        self.assert_each(read_project, ("step 1 1:1", "end 5"), 1, wrong)
        self.assert_each(read_project, ("end 1", "void", "end 5"), 2, wrong)

    def test_worths(self):
        good = ["0", "-1", "9999", "-9999", "9999/98", "-9998/99", "1/99", "7/3"]
        for word in good:
            self.assertEqual(read_project(f"end {word}"), Project.sure(Frac.read(word)))
        wrong = [*NO_FRACS, "10000", "-10000", "1/100", "10000/99", "-10000/97", far(3), "-" + far(3), "1/" + far(7)]
        self.assert_each(read_project, ("void", "end 1", "end 2"), 1, [f"end {word}" for word in wrong])

    def test_costs(self):
        for word in ("0", "9999", "1/99", "9999/98", "3/2"):
            project = Project([("step", Frac.read(word), [(1, 1)]), ("void",)])
            self.assertEqual(read_project(f"step {word} 1:1\nvoid"), project)
        wrong = [*NO_FRACS, "-1", "-1/2", "10000", "1/100", "10000/99", far(3), "1/" + far(7)]
        self.assert_each(read_project, ("step 1 1:1", "void"), 0, [f"step {word} 1:1" for word in wrong])

    def test_goals(self):
        for weight in (1, 2, 998, 999):
            self.assertEqual(read_project(f"step 1 {weight}:1\nvoid").rows[0][2], ((weight, 1),))
        wrong = [f"{word}:1" for word in (*NO_COUNTS, "0", "1000", far(9))]
        wrong += [f"1:{word}" for word in (*NO_COUNTS, "8", "9", "10", far(1))]
        wrong += ["1", ":", "1:", ":1", "1:1:1", "1::1", "1-1", "1;1", "(1:1)", "1: 1", "1 :1", "1:1,", "1/1:1"]
        self.assert_each(read_project, ("step 1 1:0 1:1", "void"), 0, [f"step 1 1:0 {word}" for word in wrong])
        self.assert_each(read_project, ("step 1 1:1", "void"), 0, [f"step 1 {word}" for word in wrong])
        self.assert_each(read_project, ("step 1 1:0 1:1", "void"), 0, ["step 1 1:1 1:0", "step 1 1:1 1:1", "step 1 1:0 1:0 1:1", "step 1 1:0 1:2 1:1"])
        nine = " ".join(f"1:{state}" for state in range(8))
        self.assertEqual(len(read_project(f"step 0 {nine}\n" + "\n".join(["void"] * 7)).rows[0][2]), 8)
        self.assert_wrong(read_project, f"step 0 {nine} 1:8\n" + "\n".join(["void"] * 8), 0)

    def test_states_without_a_line(self):
        self.assert_wrong(read_project, "step 1 1:1", 1)
        self.assert_wrong(read_project, "step 1 1:7\nvoid", 2)
        self.assert_wrong(read_project, "void\n" * 6 + "step 1 1:7", 7)
        self.assertEqual(len(read_project("step 1 1:7" + "\nvoid" * 7)), 8)
        # The first wrong line comes before one that is missing.
        self.assert_wrong(read_project, "step 1 1:7\nvoid\nnothing", 2)
        self.assert_wrong(read_project, "step 1 1:2\nend 01\nvoid", 1)

    def test_endless(self):
        self.assert_wrong(read_project, "step 1 1:0", 1)
        self.assert_wrong(read_project, "end 1\nstep 1 1:1", 2)
        self.assert_wrong(read_project, "step 1 1:1\nstep 1 1:0\nend 5", 3)
        self.assert_wrong(read_project, "step 1 1:0\nwrong", 1)
        self.assert_wrong(read_project, "void\n" * 7 + "step 1 1:7", 8)
        self.assert_wrong(read_project, "void\n" * 7 + "step 1 1:7\nvoid", 8)

    def test_ninth_line(self):
        self.assertEqual(len(read_project("\n".join(["void"] * 8))), 8)
        for line in ("void", "end 1", "", "step 1 1:0", "more"):
            self.assert_wrong(read_project, "\n".join(["void"] * 8 + [line]), 8)
            self.assert_wrong(read_project, "\n".join(["void"] * 8 + [line, "void"]), 8)


class Families(Readings):
    def test_known_ones(self):
        known = (
            (uniform(3, 2), "family 3\nset 0 1\nset 0 2\nset 1 2"), (from_tops(3, [(0, 1), (2,)]), "family 3\nset 2\nset 0 1"),
            (uniform(6, 0), "family 6\nset"), (uniform(6, 6), "family 6\nset 0 1 2 3 4 5"), (uniform(1, 1), "family 1\nset 0"),
        )
        for family, text in known:
            self.assertEqual(write_family(family=family), text)
            self.assertEqual(read_family(text=text), family)

    def test_there_and_back(self):
        chance = random.Random(92)
        for family in [*FAMILIES, *FOURS[::3], *[random_family(chance, size) for size in (5, 6) for _ in range(10)]]:
            text = write_family(family)
            self.assertEqual(read_family(text), family)
            self.assertEqual(write_family(read_family(text)), text)

    def test_no_texts(self):
        self.assert_no_text(read_family)

    def test_empty_lines_and_blanks(self):
        lines = ("family 3", "set 2", "set 0 1")
        self.assert_empty_lines(read_family, lines)
        self.assert_blanks(read_family, lines)

    def test_sizes(self):
        for size in range(1, 7):
            self.assertEqual(read_family(f"family {size}\nset"), uniform(size, 0))
        wrong = ["family", "family ", "family 0", "family 7", "family 10", "family " + far(1), "family 3 ", "family 3 3", "Family 3", "families 3", "3",
                 "familyfamily 3", "family family 3", "family3", "set", "set 0", "project 0", *[f"family {word}" for word in NO_COUNTS]]
        self.assert_each(read_family, ("family 3", "set 0"), 0, wrong)

    def test_sets(self):
        wrong = ["", "set ", "Set", "set 3", "set 6", "set 0 0", "set 1 0", "set 0 1 3", "set 0,1", "sets", "set set", "0 1", "project 0", "end 1", "family 3",
                 "set ()", "set " + far(1), *[f"set {word}" for word in NO_COUNTS], *[f"set 0 {word}" for word in NO_COUNTS]]
        self.assert_each(read_family, ("family 3", "set 0 1"), 1, wrong)
        self.assert_each(read_family, ("family 3", "set 2", "set 0 1"), 2, [*wrong, "set", "set 2", "set 1 2", "set 0 2", "set 0 1 2"])

    def test_order_of_size(self):
        self.assert_wrong(read_family, "family 3\nset 0 1\nset 2", 2)
        self.assert_wrong(read_family, "family 3\nset 1\nset 0", 2)
        self.assert_wrong(read_family, "family 4\nset 0 3\nset 0 2", 2)
        self.assert_wrong(read_family, "family 4\nset 0 3\nset 0 3", 2)
        self.assert_wrong(read_family, "family 4\nset 1 2\nset 0 3", 2)
        self.assert_wrong(read_family, "family 4\nset 0 3\nset 1 2\nset", 3)
        self.assertEqual(read_family("family 4\nset 0 3\nset 1 2"), from_tops(4, [(0, 3), (1, 2)]))

    def test_sets_that_contain_earlier_ones(self):
        self.assert_wrong(read_family, "family 3\nset\nset 0", 2)
        self.assert_wrong(read_family, "family 3\nset 0\nset 1\nset 1 2", 3)
        self.assert_wrong(read_family, "family 3\nset 0\nset 1 2\nset 0 1 2", 3)
        self.assert_wrong(read_family, "family 4\nset 0 1\nset 2 3\nset 1 2 3", 3)
        self.assertEqual(exchange_fault(read_family("family 3\nset 0\nset 1 2")), ((0,), (1, 2)))

    def test_too_short_and_too_long(self):
        self.assert_wrong(read_family, "family 3", 1)
        self.assert_wrong(read_family, "family 3\nset 0 1 2\nset 0 1 2", 2)
        self.assert_wrong(read_family, "family 3\nset 0\nmore", 2)
        self.assert_wrong(read_family, "family 1\nset 0\nproject 0\nend 1", 2)


class Houses(Readings):
    def assert_same(self, house, other):
        self.assertEqual(house.projects, other.projects)
        self.assertEqual(house.family, other.family)

    def test_known_ones(self):
        self.assertEqual(write_house(house=HOUSE), HOUSE_TEXT)
        self.assert_same(read_house(text=HOUSE_TEXT), HOUSE)
        small = House([BOX], uniform(1, 1))
        self.assertEqual(write_house(small), "family 1\nset 0\nproject 0\nstep 1 1:1 1:2\nend 0\nend 10")

    def test_there_and_back(self):
        chance = random.Random(93)
        for house in [random_house(chance, most_things=6, most_states=8) for _ in range(40)]:
            text = write_house(house)
            self.assertIs(type(read_house(text)), House)
            self.assert_same(read_house(text), house)
            self.assertEqual(write_house(read_house(text)), text)

    def test_no_texts(self):
        self.assert_no_text(read_house)

    def test_empty_lines_and_blanks(self):
        self.assert_empty_lines(read_house, HOUSE_LINES)
        self.assert_blanks(read_house, HOUSE_LINES)

    def test_too_short(self):
        for many in range(1, len(HOUSE_LINES)):
            self.assert_wrong(read_house, "\n".join(HOUSE_LINES[:many]), many)

    def test_lines_of_projects(self):
        wrong = ["project", "project 1", "project 2", "project 3", "project 00", "project 0 0", "Project 0", "projects 0", "project 0\tend", "set 0 3", "set",
                 "set 0 1", "end 1", "void", "family 3", "ready", "hope 0", *[f"project {word}" for word in NO_COUNTS if word != "1"]]
        self.assert_each(read_house, HOUSE_LINES, 3, wrong)
        wrong = ["project 0", "project 2", "project 3", "project 01", "project one", "project 1 1", "set 0", "family 1", "more", "ready"]
        self.assert_each(read_house, HOUSE_LINES, 7, wrong)
        self.assert_wrong(read_house, "family 2\nset 0\nproject 1\nend 1\nproject 0\nend 1", 2)
        self.assert_wrong(read_house, "family 2\nset 0\nproject 0\nend 1\nproject 0\nend 1", 4)

    def test_rows_in_their_places(self):
        self.assert_wrong(read_house, "family 1\nset 0\nproject 0", 3)
        self.assert_wrong(read_house, "family 2\nset 0\nproject 0\nproject 1\nend 1", 3)
        self.assert_wrong(read_house, "family 1\nproject 0\nend 1", 1)
        self.assert_wrong(read_house, "family 1\nset 0\nend 1\nproject 0", 2)
        # A project that lacks a line, or an end, is found out at the next line that is none of its own.
        self.assert_wrong(read_house, "family 2\nset 0\nproject 0\nstep 1 1:2\nend 1\nproject 1\nend 1", 5)
        self.assert_wrong(read_house, "family 2\nset 0\nproject 0\nstep 1 1:0\nproject 1\nend 1", 4)
        self.assert_wrong(read_house, "family 1\nset 0\nproject 0\nstep 1 1:0", 4)
        self.assert_wrong(read_house, "family 1\nset 0\nproject 0\nstep 1 1:1", 4)
        self.assert_wrong(read_house, "family 2\nset 0\nproject 0" + "\nvoid" * 9 + "\nproject 1\nend 1", 11)
        self.assertEqual(len(read_house("family 2\nset 0\nproject 0" + "\nvoid" * 8 + "\nproject 1\nend 1").projects[0]), 8)

    def test_each_kind_of_wrong_line_inside(self):
        self.assert_each(read_house, HOUSE_LINES, 0, ["family 0", "family 7", "family 03", "set 0", "project 0"])
        self.assert_each(read_house, HOUSE_LINES, 1, ["set 3", "set 1 0", "set 01", "project 0"])
        self.assert_each(read_house, HOUSE_LINES, 2, ["set 1 2", "set", "set 1", "set 0 3", "end 1"])
        self.assert_each(read_house, HOUSE_LINES, 4, ["step 1 1:1 1:8", "step -1 1:1", "end 10000", "end 2/2", "step 1 0:1"])
        self.assert_each(read_house, HOUSE_LINES, 10, ["end -2/4", "end 1/100", "ends 1", "project 2", "project 3"])

    def test_too_long(self):
        for line in ("project 3", "set 0", "family 3", "", "more", "work 0 1", "hope 0"):
            self.assert_wrong(read_house, HOUSE_TEXT + "\n" + line, len(HOUSE_LINES))
        # One more row belongs to the last project.
        self.assertEqual(len(read_house(HOUSE_TEXT + "\nend 1").projects[2]), 2)

    def test_equal_calls(self):
        family = Family(3, [[], [2], [1], [0], [0, 1]])
        self.assertEqual(write_house(House((BOX, Project([["void"]]), Project.sure(Frac(2, -4))), family)), HOUSE_TEXT)
