import random
import unittest

from mannerports.errors import NoText
from mannerports.netlines import net_lines, read_net
from mannerports.nets import right_net
from samples import many_ports, nested, random_nets, some_parts

# Right lines of each kind of part, of three things, and the part.
PART_LINES = (
    ("both a b", ("both", "a", "b")),
    ("loose b a", ("loose", "b", "a")),
    ("drain a b", ("drain", "a", "b")),
    ("either a b", ("either", "a", "b")),
    ("place a b -", ("place", "a", "b", None)),
    ("place a b 0", ("place", "a", "b", 0)),
    ("place b a 2", ("place", "b", "a", 2)),
    ("last a b -", ("last", "a", "b", None)),
    ("last a b 1", ("last", "a", "b", 1)),
    ("only a b", ("only", "a", "b", ())),
    ("only a b 1", ("only", "a", "b", (1,))),
    ("only b a 0 1 2", ("only", "b", "a", (0, 1, 2))),
    ("copy a b", ("copy", "a", ("b",))),
    ("copy m z a", ("copy", "m", ("z", "a"))),
    ("merge b a", ("merge", ("b",), "a")),
    ("merge z a m", ("merge", ("z", "a"), "m")),
    ("copy a " + " ".join(many_ports(12)), ("copy", "a", many_ports(12))),
    ("merge " + " ".join(many_ports(12)) + " a", ("merge", many_ports(12), "a")),
    ("both net end", ("both", "net", "end")),
    ("place within place -", ("place", "within", "place", None)),
    ("only only copy 2", ("only", "only", "copy", (2,))),
    ("copy copy end", ("copy", "copy", ("end",))),
    ("merge both merge within", ("merge", ("both", "merge"), "within")),
)

# Nets and their lines, beyond parts one by one.
NETS = (
    ((1, (), ()), ["net 1"]),
    ((3, ("b", "a"), ()), ["net 3 b a"]),
    ((2, ("net", "end", "within"), ()), ["net 2 net end within"]),
    ((1, many_ports(6), ()), ["net 1 " + " ".join(many_ports(6))]),
    ((2, (), (("net", (2, (), ()), ()),)), ["net 2", "within", "net 2", "end"]),
    (
        (2, ("a",), (
            ("both", "a", "b"),
            ("net", (2, ("p", "q"), (
                ("place", "p", "h", 1),
                ("net", (2, ("x",), (("last", "x", "y", None),)), ("h",)),
                ("net", (2, (), ()), ()),
                ("only", "h", "q", (0,)),
            )), ("c", "end")),
            ("drain", "end", "c"),
        )),
        ["net 2 a", "both a b", "within c end", "net 2 p q", "place p h 1", "within h", "net 2 x", "last x y -", "end",
         "within", "net 2", "end", "only h q 0", "end", "drain end c"],
    ),
)

# Lines that can't stand where a part of a net of two things is due.
WRONG_PART_LINES = (
    "", " ", "\n", "x", "Both a b", "bothab", "net 2", "net", "net 2 a b", "a b both", "- a b", "2 a b",
    "both", "both a", "both a b c", "loose a", "drain a b c", "either a", "either a b -",
    "place a b", "place a -", "place a b - -", "place a b 0 0", "last a b", "last a b 0 1", "place", "last",
    "only", "only a", "copy", "copy a", "merge", "merge a",
    "copy a " + " ".join(many_ports(13)), "merge " + " ".join(many_ports(13)) + " a",
    "both A b", "both a abcdefghi", "both a 1", "both a b1", "loose a -", "drain a, b", "either a b.",
    "place a 0 0", "last 0 a 0", "only a 0", "only a 0 1", "only A b", "copy A b", "copy a B", "copy a b 1",
    "merge a B", "merge A b", "merge a 1 b",
    "place a b 2", "place a b 3", "place a b x", "place a b 00", "place a b +1", "place a b -1", "place a b None",
    "last a b 2", "last a b --", "only a b 2", "only a b 0 2", "only a b -", "only a b 0 -", "only a b 01", "only a b c",
    "both a a", "loose a a", "drain a a", "either a a", "place a a 0", "last a a -", "only a a", "only a a 0",
    "copy a a", "copy a b a", "copy a b b", "merge a a", "merge b a a", "merge b b a",
    "only a b 0 0", "only a b 1 0", "only a b 1 1",
    "both  a b", "both a  b", " both a b", "both a b ", "both a b\n", "\nboth a b", "both\na b", "both a\nb",
    "both\ta b", "only a b ", "only a b  0", "only a b 0 ", "only a b 0\n", "place a b -\n", "place a b  -", "place a b ",
    "copy a b ", "copy a  b", " copy a b", "merge  a b", "merge a b ", "merge a b\n",
    "within a a", "within A", "within 1", "within a abcdefghi", "within " + " ".join(many_ports(7)),
    "within ", " within", "within  a", "within a ", "within\n", "within a\n",
    "end", "end ", " end", "end end", "end a", "End", "end\n",
)

# Lines that can't begin a net.
WRONG_FIRST_LINES = (
    "", " ", "\n", "net", "net ", "nets 2", "Net 2", "2", "both a b", "within", "end", "net a", "net 0", "net 4", "net 9",
    "net -", "net -1", "net 02", "net 10", "net +1", "net 2a", "net a 2", "net 2 2", "net 2 A", "net 2 abcdefghi", "net 2 a1",
    "net 2 a a", "net 2 a b a", "net 2 " + " ".join(many_ports(7)), " net 2", "net  2", "net 2 ", "net 2  a", "net 2 a ",
    "net 2 a  b", "net 2\n", "\nnet 2", "net 2\na", "net 2 a\n",
)


def changed_line(chance, line):
    """The line with a word more, a word fewer or another word."""
    words = line.split(" ")
    at = chance.randrange(len(words))
    others = ["a", "b", "0", "2", "3", "-", "", "end", "net", "within", "both", "place", "only", "copy", "merge"]
    words[at:at + chance.randint(0, 1)] = [chance.choice(others)] * chance.randint(0, 1)
    return " ".join(words)


class WritingTest(unittest.TestCase):
    def test_each_kind_of_part(self):
        for line, part in PART_LINES:
            self.assertEqual(net_lines((3, (), (part,))), ["net 3", line])

    def test_nets(self):
        for net, lines in NETS:
            self.assertEqual(net_lines(net), lines)

    def test_parts_in_their_order(self):
        net = (3, ("q",), tuple(part for line, part in PART_LINES))
        self.assertEqual(net_lines(net), ["net 3 q"] + [line for line, part in PART_LINES])

    def test_a_told_list_may_be_changed(self):
        for net, lines in NETS:
            told = net_lines(net)
            self.assertIs(type(told), list)
            told.append("both a b")
            told[0] = "x"
            self.assertEqual(net_lines(net), lines)


class ReadingTest(unittest.TestCase):
    def refused(self, row, lines):
        before = list(lines)
        with self.assertRaises(NoText, msg=repr(lines)) as caught:
            read_net(lines)
        self.assertEqual(caught.exception.row, row, repr(lines))
        self.assertIs(type(caught.exception.row), int)
        self.assertEqual(lines, before)

    def test_each_kind_of_part(self):
        for line, part in PART_LINES:
            self.assertEqual(read_net(["net 3", line]), (3, (), (part,)))

    def test_nets(self):
        for net, lines in NETS:
            before = list(lines)
            self.assertEqual(read_net(lines), net)
            self.assertEqual(lines, before)

    def test_reads_what_was_written(self):
        for net in random_nets(150) + [nested(4), (1, (), some_parts(120)), nested(4, (1, (), some_parts(117)))]:
            read = read_net(net_lines(net))
            self.assertEqual(repr(read), repr(net))
            self.assertIs(right_net(read), True)

    def test_numbers_are_whole_numbers(self):
        things, seen, parts = read_net(["net 1", "place a b 0", "only a b 0"])
        self.assertEqual([type(thing) for thing in (things, parts[0][3], parts[1][3][0])], [int] * 3)

    def test_no_lines(self):
        self.refused(0, [])

    def test_wrong_first_lines(self):
        for line in WRONG_FIRST_LINES:
            self.refused(0, [line])
            self.refused(0, [line, "both a b", "x"])
            self.refused(2, ["net 2", "within", line])
            self.refused(2, ["net 2", "within", line, "end"])
            self.refused(2, ["net 2", "within a", line, "end"])

    def test_wrong_part_lines(self):
        for line in WRONG_PART_LINES:
            self.refused(1, ["net 2", line])
            self.refused(2, ["net 2 a", "both a b", line, "x"])
            self.refused(4, ["net 2", "within", "net 2", "end", line])

    def test_wrong_part_lines_within(self):
        for line in WRONG_PART_LINES:
            if line != "end":
                self.refused(3, ["net 2", "within a", "net 2 b", line, "end"])

    def test_a_line_of_another_number_of_things(self):
        for things in (1, 2, 3):
            for number in range(10):
                for line in (f"place a b {number}", f"last a b {number}", f"only a b {number}"):
                    if number < things:
                        read_net([f"net {things}", line])
                    else:
                        self.refused(1, [f"net {things}", line])

    def test_an_inner_net_of_other_things(self):
        for outer in (1, 2, 3):
            for inner in (1, 2, 3):
                lines = [f"net {outer}", "within", f"net {inner}", "end"]
                if outer == inner:
                    self.assertEqual(read_net(lines), (outer, (), (("net", (inner, (), ()), ()),)))
                else:
                    self.refused(2, lines)
        self.refused(4, ["net 2", "within", "net 2", "within", "net 1", "end", "end"])

    def test_an_inner_net_of_fewer_or_more_seen_ports(self):
        for told in range(8):
            for seen in range(8):
                lines = ["net 1", " ".join(("within",) + many_ports(told)), " ".join(("net", "1") + many_ports(seen)), "end"]
                if told > 6:
                    self.refused(1, lines)
                elif told != seen:
                    self.refused(2, lines)
                else:
                    self.assertEqual(read_net(lines)[2][0][2], many_ports(told))

    def test_an_inner_net_is_told_by_its_own_within(self):
        self.refused(4, ["net 1", "within a b", "net 1 c d", "within e", "net 1 f g", "end", "end"])
        self.refused(5, ["net 1", "within a", "net 1 c", "end", "within a b", "net 1 c", "end"])

    def test_a_fifth_net_within_one_another(self):
        begin = ["net 1"] + ["within", "net 1"] * 3
        self.assertEqual(read_net(begin + ["end"] * 3), nested(4))
        self.refused(7, begin + ["within", "net 1"] + ["end"] * 4)
        self.refused(8, begin + ["both a b", "within"])
        beside = ["within", "net 1", "end"]
        self.assertEqual(len(read_net(begin + ["end"] * 3 + beside * 5)[2]), 6)
        read_net(begin + ["end"] + beside + ["end"] * 2)
        self.refused(10, begin + ["end"] + beside[:2] + beside + ["end"] * 3)

    def test_a_121st_part(self):
        line = ["both a b"]
        self.assertEqual(len(read_net(["net 1"] + line * 120)[2]), 120)
        self.refused(121, ["net 1"] + line * 121)
        self.refused(121, ["net 1"] + line * 120 + ["within", "net 1", "end"])

    def test_a_121st_part_with_nets_within(self):
        line = ["both a b"]
        inner = ["within", "net 1"] + line * 59 + ["end"]
        read_net(["net 1"] + inner * 2)
        self.refused(125, ["net 1"] + inner * 2 + line)
        self.refused(125, ["net 1"] + inner * 2 + ["within", "net 1", "end"])
        self.refused(122, ["net 1", "within", "net 1"] + line * 120 + ["end"])
        read_net(["net 1"] + ["within", "net 1", "end"] * 120)
        self.refused(361, ["net 1"] + ["within", "net 1", "end"] * 121)
        read_net(["net 1"] + line * 119 + ["within", "net 1", "end"])

    def test_an_end_that_ends_nothing(self):
        self.refused(1, ["net 1", "end"])
        self.refused(4, ["net 1", "within", "net 1", "end", "end"])
        self.refused(2, ["net 1", "within", "end"])

    def test_an_end_that_lacks(self):
        self.refused(2, ["net 1", "within"])
        self.refused(3, ["net 1", "within", "net 1"])
        self.refused(4, ["net 1", "within", "net 1", "both a b"])
        self.refused(6, ["net 1", "within", "net 1", "within", "net 1", "end"])
        self.refused(3, ["net 1", "both a b", "within a"])

    def test_the_first_of_several(self):
        self.refused(1, ["net 1", "both a a", "both a a"])
        self.refused(1, ["net 1", "both a a", "within"])
        self.refused(2, ["net 1", "within", "x"])

    def test_changed_lines_are_read_just_where_they_write_a_net(self):
        chance = random.Random(7)
        for net in random_nets(400):
            lines = net_lines(net)
            row = chance.randrange(len(lines))
            changed = changed_line(chance, lines[row])
            lines[row:row + 1] = chance.choice([[changed], [], [lines[row]] * 2, [changed, "end"], ["within", changed]])
            self.look_at(lines)

    def look_at(self, lines):
        try:
            net = read_net(lines)
        except NoText as refusal:
            row = refusal.row
        else:
            self.assertIs(right_net(net), True)
            self.assertEqual(net_lines(net), lines)
            return
        # What stands ahead of the refused line lacks nothing but ends.
        self.assertTrue(0 <= row <= len(lines))
        if row < len(lines):
            self.refused(row, lines[:row + 1])
        try:
            read_net(lines[:row])
        except NoText as refusal:
            self.assertEqual(refusal.row, row)


if __name__ == "__main__":
    unittest.main()
