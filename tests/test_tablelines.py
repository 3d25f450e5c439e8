import random
import re
import unittest

from mannerports.errors import NoText
from mannerports.tablelines import read_table, table_lines
from mannerports.tables import is_table
from kinds import random_table, round_table
from samples import many_ports

A, B = (("a", 0),), (("b", 2),)

# Tables and their lines.
TABLES = (
    (((), 1, ()), ["table 1"]),
    (((), 1, ((0, (), 0),)), ["table 1", "step 0 0"]),
    ((("b", "a"), 12, ()), ["table 12 b a"]),
    ((("a",), 2000, ((0, (), 1999), (1999, A, 10))), ["table 2000 a", "step 0 1999", "step 1999 10 a 0"]),
    (
        (("b", "a"), 2, ((0, (), 0), (0, (), 1), (0, A, 0), (0, A + B, 1), (0, B, 0), (1, (("a", 1), ("b", 0)), 0))),
        ["table 2 b a", "step 0 0", "step 0 1", "step 0 0 a 0", "step 0 1 a 0 b 2", "step 0 0 b 2", "step 1 0 a 1 b 0"],
    ),
    (
        (("table", "step"), 1, ((0, (("step", 1), ("table", 2)), 0),)),
        ["table 1 table step", "step 0 0 step 1 table 2"],
    ),
    (
        (many_ports(6), 1, ((0, tuple((port, 1) for port in many_ports(6)), 0),)),
        ["table 1 " + " ".join(many_ports(6)), "step 0 0 " + " ".join(port + " 1" for port in many_ports(6))],
    ),
)

WRONG_FIRST_LINES = (
    "", " ", "\n", "table", "table ", "tables 1", "Table 1", "1", "a", "step 0 0", "net 1", "table a", "table a 1", "table 0",
    "table 00", "table 01", "table 2001", "table 02000", "table 10000", "table -1", "table +1", "table 1a", "table 1.0",
    "table 1_0", "table " + "1" * 5000, "table 1 A", "table 1 a1", "table 1 1", "table 1 abcdefghi", "table 1 a a",
    "table 1 a b a", "table 1 -", "table 1 " + " ".join(many_ports(7)), " table 1", "table  1", "table 1 ", "table 1  a",
    "table 1 a ", "table 1 a  b", "table 1\n", "\ntable 1", "table 1\na", "table 1 a\n", "table\n1", "table 1 a,b", "table None",
)

# Lines that can't stand behind "table 3 b a" and "step 1 1 a 1".
WRONG_STEP_LINES = (
    "", " ", "\n", "step", "step ", "Step 2 0", "steps 2 0", "table 3 b a", "2 0", "a", "end", "step 2", "step a 0", "step 2 a",
    "step 2 a 0", "step 2 0 a", "step 2 0 0", "step 2 0 0 a", "step 2 0 a 0 b", "step 2 0 a 0 0", "step 3 0", "step 2 3",
    "step 4 0", "step -1 0", "step 2 -1", "step 02 0", "step 2 00", "step 2 01", "step +2 0", "step 2 0_0", "step 2 1e0",
    "step 2 " + "1" * 5000, "step 2 0 a 3", "step 2 0 a 9", "step 2 0 a -1", "step 2 0 a 00", "step 2 0 a 01", "step 2 0 a 10",
    "step 2 0 a -", "step 2 0 a a", "step 2 0 c 0", "step 2 0 A 0", "step 2 0 a 0 c 0", "step 2 0 a 0 a 0", "step 2 0 a 0 a 1",
    "step 2 0 b 0 a 0", "step 2 0 a 0 b 0 c 0", "step 2 0 a 0 b 0 a 0", " step 2 0", "step  2 0", "step 2  0", "step 2 0 ",
    "step 2 0  a 0", "step 2 0 a  0", "step 2 0 a 0 ", "step 2 0\n", "\nstep 2 0", "step\n2 0", "step 2 0\na 0", "step 2 0 a 0\n",
    "step 2 0 a:0", "step 2 0 a,0", "step 2 0 a 0, b 0", "step None 0",
    # Not behind the one ahead.
    "step 0 0", "step 0 2 b 2", "step 1 0", "step 1 2", "step 1 2 a 0", "step 1 2 a 0 b 2", "step 1 0 a 1", "step 1 1 a 1",
)
RIGHT_STEP_LINES = ("step 1 2 a 1", "step 1 0 a 1 b 0", "step 1 0 a 2", "step 1 0 b 0", "step 2 0", "step 2 2 a 2 b 2")


def first_wrong(lines):
    """The first line that can't stand where it does, by the words of the document, or None."""
    for row, line in enumerate(lines):
        if row == 0:
            found = re.fullmatch(r"table ([1-9]\d{0,3})((?: [a-z]{1,8})*)", line)
            if not found or int(found[1]) > 2000:
                return 0
            many, ports = int(found[1]), found[2].split()
            ahead = None
            if len(ports) > 6 or len(set(ports)) < len(ports):
                return 0
            continue
        found = re.fullmatch(r"step (0|[1-9]\d{0,3}) (0|[1-9]\d{0,3})((?: [a-z]{1,8} [012])*)", line)
        if not found or int(found[1]) >= many or int(found[2]) >= many:
            return row
        words = found[3].split()
        names, things = words[::2], [int(word) for word in words[1::2]]
        if names != sorted(set(names)) or set(names) - set(ports):
            return row
        step = (int(found[1]), tuple(zip(names, things)), int(found[2]))
        if ahead is not None and not ahead < step:
            return row
        ahead = step
    return None if lines else 0


def bent_line(chance, line):
    """A line with a word out, twice, another one or one put in, or with a sign more or fewer or a blank more."""
    words = line.split(" ")
    at = chance.randrange(len(words))
    others = ["a", "b", "c", "table", "step", "0", "1", "2", "3", "00", "01", "2000", "2001", "", "-", "A", "\n"]
    kind = chance.randrange(7)
    if kind == 0:
        words[at:at + 1] = []
    elif kind == 1:
        words.insert(at, words[at])
    elif kind == 2:
        words[at] = chance.choice(others)
    elif kind == 3:
        words.insert(at, chance.choice(others))
    if kind < 4:
        return " ".join(words)
    place = chance.randint(0, len(line))
    if kind == 4:
        return line[:place] + line[place + 1:]
    return line[:place] + (" " if kind == 5 else chance.choice("ab01 2-:\n")) + line[place:]


def bent_lines(chance, lines):
    """Lines with one out, twice, exchanged with another, put in or bent."""
    lines = list(lines)
    at = chance.randrange(len(lines)) if lines else 0
    other = chance.randrange(len(lines)) if lines else 0
    kind = chance.randrange(6)
    if not lines or kind == 0:
        lines.insert(at, chance.choice(["table 1", "step 0 0", "", "step 1 0 a 1", "table 2001 a", "step 0 0 b 0"]))
    elif kind == 1:
        del lines[at]
    elif kind == 2:
        lines.insert(at, lines[at])
    elif kind == 3:
        lines[at], lines[other] = lines[other], lines[at]
    else:
        lines[at] = bent_line(chance, lines[at])
    return lines


class WritingTest(unittest.TestCase):
    def test_sign_by_sign(self):
        for table, lines in TABLES:
            told = table_lines(table)
            self.assertEqual(told, lines)
            self.assertIs(type(told), list)
            self.assertEqual({type(line) for line in told}, {str})

    def test_a_told_list_may_be_changed(self):
        for table, lines in TABLES:
            told = table_lines(table)
            told.append("step 0 0")
            told[0] = "x"
            self.assertEqual(table_lines(table), lines)

    def test_by_chance(self):
        chance = random.Random(201)
        for _ in range(200):
            table = random_table(chance, "abcdef"[:chance.randint(0, 6)], chance.randint(1, 30), 20, 3)
            expected = ["table " + " ".join([str(table[1])] + list(table[0]))]
            for begin, moment, end in table[2]:
                expected.append(f"step {begin} {end}" + "".join(f" {port} {thing}" for port, thing in moment))
            self.assertEqual(table_lines(table), expected)


class ReadingTest(unittest.TestCase):
    def refused(self, row, lines):
        self.assertEqual(first_wrong(lines), row, lines)
        before = list(lines)
        with self.assertRaises(NoText, msg=repr(lines)) as caught:
            read_table(lines)
        self.assertIs(type(caught.exception), NoText)
        self.assertEqual(caught.exception.row, row, lines)
        self.assertIs(type(caught.exception.row), int)
        self.assertEqual(lines, before)

    def test_tables(self):
        for table, lines in TABLES:
            before = list(lines)
            read = read_table(lines)
            self.assertEqual(repr(read), repr(table))
            self.assertEqual(lines, before)

    def test_reads_what_was_written(self):
        chance = random.Random(202)
        tables = [round_table("a", 2000), round_table("step", 3, 1999)]
        for _ in range(200):
            ports = chance.sample(("a", "b", "table", "step", "abcdefgh", "z"), chance.randint(0, 6))
            tables.append(random_table(chance, ports, chance.randint(1, 50), 25, 3))
        for table in tables:
            read = read_table(table_lines(table))
            # Kind by kind: repr parts truths from numbers and lists from tuples.
            self.assertEqual(repr(read), repr(table))
            self.assertIs(is_table(read), True)

    def test_a_told_table_is_the_askers_own(self):
        lines = ["table 2 a", "step 0 1 a 1"]
        read = read_table(lines)
        lines[1] = "step 0 0"
        lines.append("x")
        self.assertEqual(read, (("a",), 2, ((0, (("a", 1),), 1),)))

    def test_no_lines(self):
        self.refused(0, [])

    def test_wrong_first_lines(self):
        for line in WRONG_FIRST_LINES:
            self.refused(0, [line])
            self.refused(0, [line, "step 0 0"])
            self.refused(0, [line, "x", "table 1"])

    def test_wrong_step_lines(self):
        for line in WRONG_STEP_LINES:
            self.refused(2, ["table 3 b a", "step 1 1 a 1", line])
            self.refused(2, ["table 3 b a", "step 1 1 a 1", line, "step 2 0", "x"])
            self.refused(3, ["table 3 b a", "step 0 1 a 1", "step 1 1 a 1", line])

    def test_right_step_lines(self):
        for line in RIGHT_STEP_LINES:
            lines = ["table 3 b a", "step 1 1 a 1", line]
            self.assertIsNone(first_wrong(lines))
            self.assertEqual(table_lines(read_table(lines)), lines)

    def test_the_number_of_stands(self):
        for many in (1, 9, 10, 999, 1000, 1999, 2000):
            self.assertEqual(read_table([f"table {many}", f"step {many - 1} {many - 1}"]), (
                (), many, ((many - 1, (), many - 1),)))
            self.refused(1, [f"table {many}", f"step {many} 0"])
            self.refused(1, [f"table {many}", f"step 0 {many}"])
        self.refused(0, ["table 0"])
        self.refused(0, ["table 2001"])

    def test_steps_rise_as_python_sorts(self):
        # By the from, then the moment, then the to: numbers by their worth, not by their signs.
        lines = ["table 11 a", "step 0 10", "step 0 2 a 0", "step 0 10 a 0", "step 2 0", "step 10 0"]
        self.assertEqual(table_lines(read_table(lines)), lines)
        for row in range(1, 5):
            turned = lines[:row] + [lines[row + 1], lines[row]] + lines[row + 2:]
            self.refused(row + 1, turned)
            self.refused(row + 1, lines[:row + 1] + lines[row:])

    def test_the_first_of_several(self):
        self.refused(1, ["table 1", "step 0 1", "step 0 1"])
        self.refused(0, ["table 0", "step 0 1"])
        self.refused(2, ["table 1", "step 0 0", "step 0 0", "x"])

    def test_bent_once_to_three_times(self):
        chance = random.Random(203)
        right = wrong = 0
        for number in range(6000):
            table = random_table(chance, "ab"[:chance.randint(0, 2)], chance.randint(1, 3), 6, 3)
            lines = table_lines(table)
            for _ in range(1 + number % 3):
                lines = bent_lines(chance, lines)
            row = first_wrong(lines)
            if row is None:
                right += 1
                self.assertEqual(table_lines(read_table(lines)), lines)
            else:
                wrong += 1
                self.refused(row, lines)
        self.assertGreater(min(right, wrong), 200)


if __name__ == "__main__":
    unittest.main()
