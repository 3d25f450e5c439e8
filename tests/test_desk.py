import random
import unittest

from mannerports.desk import Desk
from mannerports.errors import MannerError, NoAlike, NoRow, NoTable, NoText, TooMany
from mannerports.flatting import flat_of
from mannerports.leasts import least_table
from mannerports.netlines import net_lines
from mannerports.tablelines import read_table, table_lines
from mannerports.tables import goes_on, stands_behind, table_has
from mannerports.tabling import table_of
from mannerports.wishchecker import lets_wish
from kinds import chain, random_table, round_table
from papers import passed_from, spread, stands_that_come
from samples import many_ports
from systems import parting, table_system

A, B = (("a", 0),), (("b", 1),)

# By a to 1, by b back, and it may stay.
TABLE = (("a", "b"), 2, ((0, (), 0), (0, A, 1), (1, (), 1), (1, B, 0)))
LINES = "table 2 a b\nstep 0 0\nstep 0 1 a 0\nstep 1 1\nstep 1 0 b 1"
PLACE = (2, ("i", "o"), (("place", "i", "o", None),))
DEEP = (1, ("a", "b"), (("net", (1, ("i", "o"), (("place", "i", "o", None),)), ("a", "h")), ("place", "h", "b", 0)))


def of_net(name, net):
    return "\n".join(["net " + name] + net_lines(net))


def of_table(name, table):
    return "\n".join(["table " + name] + table_lines(table))


def moment_word(moment):
    return ",".join(f"{port}:{thing}" for port, thing in moment) or "-"


def moment_of(word):
    return () if word == "-" else tuple((pair.split(":")[0], int(pair.split(":")[1])) for pair in word.split(","))


class DeskTest(unittest.TestCase):
    def setUp(self):
        self.desk = Desk()

    def say(self, row, desk=None):
        answer = (desk or self.desk).say(row)
        self.assertIs(type(answer), str)
        return answer

    def ok(self, *rows):
        for row in rows:
            self.assertEqual(self.say(row), "ok", row)

    def no_row(self, *rows):
        """These are refused, of no other class, and nothing is turned."""
        for row in rows:
            before = self.all_told()
            with self.assertRaises(NoRow, msg=repr(row)) as caught:
                self.desk.say(row)
            self.assertIs(type(caught.exception), NoRow)
            self.assertIsInstance(caught.exception, MannerError)
            self.assertEqual(self.all_told(), before, row)

    def refused(self, kind, said, **fields):
        before = self.all_told()
        with self.assertRaises(kind, msg=repr(said)) as caught:
            self.desk.say(said)
        self.assertIs(type(caught.exception), kind)
        self.assertEqual({name: getattr(caught.exception, name) for name in fields}, fields, said)
        self.assertEqual(self.all_told(), before, said)

    names = ("t", "u", "n", "m", "net", "table", "x", "y", "z")

    def all_told(self):
        """All that is seen of the desk: each table's lines, and those of the table of each net."""
        told = {}
        for name in self.names:
            told[name, "table"] = self.answer_or_refusal(f"lines {name}")
            # By a name that is used for this alone.
            told[name, "net"] = self.answer_or_refusal(f"make qqqq {name}")
            if told[name, "net"] == "ok":
                told[name, "net"] = self.desk.say("lines qqqq")
        return told

    def answer_or_refusal(self, row):
        try:
            return self.desk.say(row)
        except (NoRow, TooMany) as refusal:
            return type(refusal)

    def table(self, name):
        """The table of a name, by its lines."""
        return read_table(self.say("lines " + name).split("\n"))


class TellingTest(DeskTest):
    def test_a_table_and_its_lines(self):
        self.ok("table t\n" + LINES)
        self.assertEqual(self.say("lines t"), LINES)
        for table in (((), 1, ()), (("b",), 2000, ()), round_table("step", 3), ((), 1, ((0, (), 0),))):
            self.ok(of_table("t", table))
            self.assertEqual(self.say("lines t"), "\n".join(table_lines(table)))

    def test_a_net_and_its_table(self):
        for net in (PLACE, DEEP, (1, (), ()), chain(3, 2)):
            self.ok(of_net("n", net), "make t n")
            self.assertEqual(self.table("t"), table_of(flat_of(net)))

    def test_sign_by_sign(self):
        self.ok("net n\nnet 1 b a\nplace a b -", "make t n")
        self.assertEqual(self.say("lines t"), "table 2 b a\nstep 0 0\nstep 0 1 a 0\nstep 1 1\nstep 1 0 b 0")
        self.assertEqual(self.say("may t"), "- a:0")
        self.assertEqual(self.say("may t a:0"), "- b:0")
        self.assertEqual(self.say("may t a:0 a:0"), "none")
        self.assertEqual(self.say("may t a:0 - b:0 -"), "- a:0")
        self.assertEqual(self.say("alike t t"), "alike")
        self.ok("least u t")
        self.assertEqual(self.say("lines u"), self.say("lines t"))
        self.assertEqual(self.say("alike t u"), "alike")
        self.assertEqual(self.say("wish t a 0"), "can")
        self.assertEqual(self.say("wish t a 1"), "waits")
        self.ok("build m 1 t", "make u m")
        self.assertEqual(self.say("alike t u"), "alike")
        self.ok("table u\ntable 1 a b\nstep 0 0")
        self.assertEqual(self.say("alike t u"), "parted a:0")
        self.ok("table u\ntable 2 a\nstep 0 1 a 0")
        self.assertEqual(self.say("wish u a 0"), "waits a:0")
        self.assertEqual(self.say("lines u"), "table 2 a\nstep 0 1 a 0")

    def test_names_told_anew(self):
        self.ok("table t\n" + LINES, "table t\ntable 1")
        self.assertEqual(self.say("lines t"), "table 1")
        self.ok(of_net("n", PLACE), "make t n")
        self.assertEqual(self.table("t"), table_of(PLACE))
        self.ok(of_net("n", (1, ("a",), ())), "make t n")
        self.assertEqual(self.say("may t"), "- a:0")
        self.ok("least t t")
        self.assertEqual(self.say("may t"), "- a:0")
        self.ok("build n 3 t", "make t n")
        self.assertEqual(self.say("may t"), "- a:0")

    def test_a_table_made_of_a_net_stays_where_the_net_is_told_anew(self):
        self.ok(of_net("n", PLACE), "make t n", of_net("n", (1, ("a",), ())))
        self.assertEqual(self.table("t"), table_of(PLACE))

    def test_a_net_and_a_table_of_one_name(self):
        self.ok("table x\n" + LINES, of_net("x", PLACE))
        self.assertEqual(self.say("lines x"), LINES)
        self.ok("make y x")
        self.assertEqual(self.table("y"), table_of(PLACE))
        self.ok("make x x")
        self.assertEqual(self.table("x"), table_of(PLACE))
        self.ok("build x 2 x", "make y x")
        self.assertEqual(self.say("alike x y"), "alike")

    def test_names_that_are_words_of_rows(self):
        words = ("net", "table", "make", "build", "may", "alike", "least", "wish", "lines", "none", "ok", "step", "can")
        for word in words:
            self.ok(f"net {word}\nnet 1 {word}", f"table {word}\ntable 1 {word}\nstep 0 0 {word} 2")
            self.assertEqual(self.say(f"may {word}"), f"{word}:2")
            self.assertEqual(self.say(f"may {word} {word}:2 {word}:2"), f"{word}:2")
            self.assertEqual(self.say(f"wish {word} {word} 2"), "can")
            self.assertEqual(self.say(f"alike {word} {word}"), "alike")
            self.assertEqual(self.say(f"lines {word}"), f"table 1 {word}\nstep 0 0 {word} 2")
            self.ok(f"least {word} {word}", f"make {word} {word}", f"build {word} 1 {word}")

    def test_names_of_one_sign_and_of_eight(self):
        self.ok("table a\ntable 1", "table abcdefgh\ntable 1", "net zzzzzzzz\nnet 1", "make a zzzzzzzz")
        self.no_row("table abcdefghi\ntable 1", "table \ntable 1", "net abcdefghi\nnet 1")

    def test_no_lines_and_a_line_of_no_words(self):
        self.refused(NoText, "net n", row=0)
        self.refused(NoText, "table t", row=0)
        self.refused(NoText, "net n\n", row=0)
        self.refused(NoText, "table t\n", row=0)
        self.refused(NoText, "table t\ntable 1\n", row=1)
        self.refused(NoText, "net n\nnet 1\n", row=1)

    def test_lines_that_can_not_be_read(self):
        self.ok("table t\n" + LINES, of_net("n", PLACE))
        self.refused(NoText, "table t\ntable 0", row=0)
        self.refused(NoText, "table t\ntable 1 a\nstep 0 0\nstep 0 0", row=2)
        self.refused(NoText, "table t\ntable 1 a\nstep 0 0\nstep 0 1", row=2)
        self.refused(NoText, "table t\nnet 1", row=0)
        self.refused(NoText, "net n\ntable 1", row=0)
        self.refused(NoText, "net n\nnet 4", row=0)
        self.refused(NoText, "net n\nnet 1\nboth a a", row=1)
        self.refused(NoText, "net n\nnet 1 a\nboth a b\nwithin", row=3)
        self.refused(NoText, "net n\nnet 1 a\n\nboth a b", row=1)
        self.refused(NoText, "net n\nnet 1 a\nboth a  b", row=1)
        self.refused(NoText, "net x\nnet 1 a\nend", row=1)

    def test_long_rows(self):
        table = (many_ports(6), 300, tuple(sorted(
            (k, ((many_ports(6)[k % 6], k % 3),), (k * 7) % 300) for k in range(300))))
        row = of_table("t", table)
        self.assertLess(len(row), 20000)
        self.ok(row)
        self.assertEqual(self.table("t"), table)


class MayTest(DeskTest):
    def test_none(self):
        self.ok("table t\ntable 2 a\nstep 0 1 a 0")
        self.assertEqual(self.say("may t"), "a:0")
        self.assertEqual(self.say("may t a:0"), "none")
        self.assertEqual(self.say("may t a:0 a:0"), "none")
        self.assertEqual(self.say("may t -"), "none")
        self.ok("table t\ntable 1")
        self.assertEqual(self.say("may t"), "none")

    def test_the_still_one_alone(self):
        self.ok("table t\ntable 1\nstep 0 0")
        self.assertEqual(self.say("may t"), "-")
        self.assertEqual(self.say("may t - - -"), "-")

    def test_rising(self):
        self.ok("table t\ntable 2 c a b\nstep 0 1\nstep 0 0 a 0\nstep 0 1 a 0 b 2\nstep 0 1 a 1\nstep 0 0 b 0\nstep 0 1 c 1")
        self.assertEqual(self.say("may t"), "- a:0 a:0,b:2 a:1 b:0 c:1")
        self.assertEqual(self.say("may t a:0 b:0 a:0,b:2"), "none")

    def test_ports_that_the_table_does_not_see(self):
        self.ok("table t\n" + LINES)
        self.assertEqual(self.say("may t z:0"), "none")
        self.assertEqual(self.say("may t a:0 b:1,z:2"), "none")
        self.assertEqual(self.say("may t a:0 z:0 b:1"), "none")
        self.assertEqual(self.say("may t abcdefgh:2"), "none")

    def test_words_that_are_no_moments(self):
        self.ok("table t\n" + LINES)
        for word in ("", "a", "a:", ":0", "a:3", "a:4", "a:9", "a:10", "a:00", "a:01", "a:-1", "a:x", "A:0", "a1:0", "abcdefghi:0",
                     "a:0,", ",a:0", "a:0,,b:0", "b:0,a:0", "a:0,a:0", "a:0,a:1", "a:0,b:3", "a:0;b:0", "a0", "a:0:0", "a::0",
                     "--", "-,-", "-,a:0", "a:0,-", "a:-", "0:a", "a=0", "a:0b:0", "a,b:0", "a:0\n", "\n", "none", "z:3", "-:0",
                     "c:0,b:0,a:0", "a:0,c:0,b:0", "a:None", "a:True", "a:0\nb:0", ":"):
            self.no_row(f"may t {word}", f"may t a:0 {word}", f"may t {word} a:0")
            # Ahead of a row that it hasn't.
            self.no_row(f"may t z:0 {word}")

    def test_sixty_moments_and_more(self):
        self.ok("table t\n" + LINES)
        self.assertEqual(self.say("may t" + " a:0 b:1" * 30), "- a:0")
        self.assertEqual(self.say("may t" + " a:0 b:1" * 29 + " a:0 a:0"), "none")
        self.assertEqual(self.say("may t" + " a:0 b:1" * 400), "- a:0")

    def test_by_the_functions(self):
        chance = random.Random(281)
        for _ in range(60):
            table = random_table(chance, "abc", 3, 9, 3)
            self.ok(of_table("t", table))
            stands, row = (0,), []
            for _ in range(6):
                moments = goes_on(table, stands)
                self.assertEqual(self.say(" ".join(["may t"] + row)), " ".join(map(moment_word, moments)) or "none")
                if not moments:
                    break
                moment = chance.choice(moments)
                row.append(moment_word(moment))
                stands = stands_behind(table, stands, moment)


class AlikeTest(DeskTest):
    def test_ports(self):
        self.ok("table t\ntable 1 a", "table u\ntable 1 b", "table x\ntable 1 a b", "table y\ntable 2 b a")
        for one, other in (("t", "u"), ("t", "x"), ("x", "t")):
            self.refused(NoAlike, f"alike {one} {other}", word="ports", number=-1)
        self.assertEqual(self.say("alike x y"), "alike")

    def test_too_many(self):
        self.ok(of_table("t", round_table("a", 69)), of_table("u", round_table("a", 29)), of_table("x", round_table("b", 29)))
        self.refused(TooMany, "alike t u", word="pairs")
        self.refused(NoAlike, "alike t x", word="ports", number=-1)

    def test_by_chance(self):
        chance = random.Random(282)
        words = set()
        for _ in range(150):
            one = random_table(chance, "ab", 3, 8)
            other = chance.choice([random_table(chance, "ab", 3, 8), spread(chance, one)])
            self.ok(of_table("t", one), of_table("u", other))
            word, *row = self.say("alike t u").split(" ")
            words.add(word)
            shortest = parting(table_system(one), table_system(other))
            if shortest is None:
                self.assertEqual((word, row), ("alike", []))
            else:
                self.assertEqual((word, len(row)), ("parted", len(shortest)))
                row = tuple(moment_of(each) for each in row)
                self.assertIsNot(table_has(one, row), table_has(other, row))
        self.assertEqual(words, {"alike", "parted"})

    def test_a_told_row_is_taken_again(self):
        line = (("a",), 1500, tuple((k, A, k + 1) for k in range(1499)))
        self.ok(of_table("t", line), "table u\ntable 1 a\nstep 0 0 a 0")
        word, *row = self.say("alike t u").split(" ")
        self.assertEqual((word, row), ("parted", ["a:0"] * 1500))
        self.assertEqual(self.say(" ".join(["may t"] + row)), "none")
        self.assertEqual(self.say(" ".join(["may u"] + row)), "a:0")
        self.assertEqual(self.say(" ".join(["may t"] + row[:-1])), "none")
        self.assertEqual(self.say(" ".join(["may t"] + row[:-2])), "a:0")


class LeastTest(DeskTest):
    def test_least(self):
        chance = random.Random(283)
        for _ in range(40):
            table = random_table(chance, "ab", 4, 10)
            self.ok(of_table("t", table), "least u t")
            self.assertEqual(self.table("u"), least_table(table))
            self.assertEqual(self.table("t"), table)
            self.ok("least t t")
            self.assertEqual(self.table("t"), least_table(table))

    def test_too_many(self):
        self.ok(of_table("t", round_table("a", 401)), "table u\ntable 1")
        self.refused(TooMany, "least u t", word="stands")
        self.refused(TooMany, "least x t", word="stands")
        self.assertEqual(self.say("lines u"), "table 1")
        self.no_row("lines x")


class WishTest(DeskTest):
    def test_by_chance(self):
        chance = random.Random(284)
        words = set()
        for _ in range(150):
            table = random_table(chance, "ab", 4, 10, 3)
            self.ok(of_table("t", table))
            wish = (chance.choice("ab"), chance.randrange(3))
            word, *walk = self.say(f"wish t {wish[0]} {wish[1]}").split(" ")
            words.add(word)
            can = all(passed_from(table, wish, stand) for stand in stands_that_come(table))
            self.assertEqual(word, "can" if can else "waits")
            if can:
                self.assertEqual(walk, [])
                continue
            # Along the walk the table comes to a stand from which the wish never comes.
            stands = (0,)
            for moment in walk:
                stands = stands_behind(table, stands, moment_of(moment))
            self.assertFalse(all(passed_from(table, wish, stand) for stand in stands))
        self.assertEqual(words, {"can", "waits"})

    def test_a_long_walk(self):
        steps = tuple(sorted([(k, A, k + 1) for k in range(500)] + [(k, B, k) for k in range(500)]))
        self.ok(of_table("t", (("a", "b"), 501, steps)))
        self.assertEqual(self.say("wish t b 1"), "waits" + " a:0" * 500)
        walk = tuple((A, k + 1) for k in range(500))
        self.assertIs(lets_wish((("a", "b"), 501, steps), ("b", 1), ("waits", walk, (500,))), True)

    def test_ports_and_things(self):
        self.ok("table t\n" + LINES)
        self.assertEqual([self.say(f"wish t {port} {thing}") for port in "ab" for thing in (0, 1, 2)],
                         ["can", "waits", "waits", "waits", "can", "waits"])
        self.no_row("wish t c 0", "wish t z 1", "wish t a 3", "wish t a 4", "wish t a 9", "wish t c 3", "wish t a 00",
                    "wish t a 10", "wish t a -", "wish t a -1", "wish t a x", "wish t A 0", "wish t 0 a", "wish t a:0",
                    "wish t a:0 0", "wish t a", "wish t a 0 0", "wish t", "wish", "wish t abcdefghi 0", "wish t  0")


class BuildTest(DeskTest):
    def test_build(self):
        self.ok("table t\n" + LINES, "build n 2 t", "make u n")
        self.assertEqual(self.say("alike t u"), "alike")
        self.ok("least x u", "least y t")
        self.assertEqual(self.say("lines x"), self.say("lines y"))

    def test_no_table(self):
        self.ok(of_net("n", PLACE), "table t\n" + LINES)
        for word, lines in (("plain", "table 2 a\nstep 0 0\nstep 0 1\nstep 1 1"), ("still", "table 2 a\nstep 0 0"),
                            ("things", "table 1 a\nstep 0 0\nstep 0 0 a 2"),
                            ("many", "table 5 a\nstep 0 0\nstep 1 1\nstep 2 2\nstep 3 3\nstep 4 4")):
            self.ok("table u\n" + lines)
            self.refused(NoTable, "build n 2 u", word=word)
            self.refused(NoTable, "build x 2 u", word=word)
        self.ok("make u n")
        self.assertEqual(self.table("u"), table_of(PLACE))
        self.no_row("make u x")

    def test_things(self):
        self.ok("table t\ntable 1 a\nstep 0 0\nstep 0 0 a 0")
        for things in ("1", "2", "3"):
            self.ok(f"build n {things} t")
        for things in ("0", "4", "5", "9", "10", "01", "-", "-1", "", "a", "1.0", "+1", "None", "1\n"):
            self.no_row(f"build n {things} t")


class MakeTest(DeskTest):
    def test_too_many(self):
        self.ok(of_net("n", chain(9, 0)), "table t\ntable 1", of_net("m", (3, many_ports(6), ())))
        self.refused(TooMany, "make t n", word="stands")
        self.refused(TooMany, "make x n", word="stands")
        self.refused(TooMany, "make t m", word="moments")
        self.assertEqual(self.say("lines t"), "table 1")
        self.no_row("lines x")

    def test_nets_within(self):
        self.ok(of_net("n", DEEP), "make t n")
        self.assertEqual(self.table("t"), table_of(flat_of(DEEP)))


class NoRowTest(DeskTest):
    ROWS = ("net x\nnet 1 a", "table x\ntable 1 a", "make x n", "build x 2 t", "may t", "may t -", "may t a:0 b:1", "may t a:0,b:1 -",
            "alike t u", "least x t", "wish t a 0", "lines t")

    def setUp(self):
        super().setUp()
        self.ok("table t\n" + LINES, "table u\n" + LINES, of_net("n", PLACE), of_net("m", DEEP))

    def test_each_form_is_right(self):
        for row in self.ROWS:
            self.say(row)

    def changed(self, row, words):
        first, *lines = row.split("\n")
        return "\n".join([" ".join(words)] + lines)

    def test_a_word_out(self):
        for row in self.ROWS:
            words = row.split("\n")[0].split(" ")
            for at in range(len(words)):
                if words[0] == "may" and at > 1:
                    self.say(self.changed(row, words[:at] + words[at + 1:]))
                else:
                    self.no_row(self.changed(row, words[:at] + words[at + 1:]))

    def test_a_word_twice_another_one_and_one_more(self):
        for row in self.ROWS:
            words = row.split("\n")[0].split(" ")
            for at in range(len(words)):
                twice = words[:at] + [words[at]] + words[at:]
                if words[0] == "may" and at > 1:
                    self.say(self.changed(row, twice))
                else:
                    self.no_row(self.changed(row, twice))
                for other in ("A", "1x", "", "a_b", "abcdefghi", ":", "ab:cd", "3.", "-a"):
                    self.no_row(self.changed(row, words[:at] + [other] + words[at + 1:]))
            for more in ("x", "t", "0", "", "A", "end"):
                self.no_row(self.changed(row, words + [more]))

    def test_blanks_doubled_and_at_an_end(self):
        for row in self.ROWS:
            first, *lines = row.split("\n")
            rest = "".join("\n" + line for line in lines)
            for at in [k for k, sign in enumerate(first) if sign == " "]:
                self.no_row(first[:at] + " " + first[at:] + rest)
            self.no_row(" " + row, first + " " + rest)

    def test_line_feeds_elsewhere(self):
        for row in self.ROWS:
            first, *lines = row.split("\n")
            self.no_row("\n" + row)
            for at in range(1, len(first)):
                bent = (first[:at] + "\n" + first[at:]).split("\n")[0].split(" ")
                # Behind the name of a net or a table lines are told, wrong ones here; a name may be cut.
                if bent[0] in ("net", "table") and len(bent) == 2 and bent[1]:
                    self.refused(NoText, first[:at] + "\n" + row[at:])
                else:
                    self.no_row(first[:at] + "\n" + row[at:])
            if not lines:
                self.no_row(row + "\n", row + "\nx", row + "\n\n", row + "\n" + LINES)

    def test_capitals(self):
        for row in self.ROWS:
            first, *lines = row.split("\n")
            words = first.split(" ")
            for at, word in enumerate(words):
                if word.upper() != word:
                    self.no_row(self.changed(row, words[:at] + [word.upper()] + words[at + 1:]))
                    self.no_row(self.changed(row, words[:at] + [word.capitalize()] + words[at + 1:]))

    def test_rows_of_one_word_and_of_none(self):
        self.no_row("", " ", "\n", "  ", "\n\n", "net", "table", "make", "build", "may", "alike", "least", "wish", "lines", "x", "t",
                    "ok", "none", "-", "step", "end", "within", "0", "net\nnet 1", "table\ntable 1", "table 1", "net 1\nnet 1",
                    "step 0 0", "hello world", "Net n\nnet 1", "nets n\nnet 1", "lines  t", "linest", "lines t u", "\t", "lines\tt",
                    "net x y\nnet 1", "table t u\ntable 1", "may T", "line t", "a:0", "may -", "may - t")

    def test_names_that_the_desk_has_not(self):
        self.no_row("make x q", "make x t", "build x 2 q", "build x 2 n", "may q", "may q -", "may n", "alike t q", "alike q t", "alike q q",
                    "alike n m", "least x q", "least x n", "wish q a 0", "wish n i 0", "lines q", "lines n")

    def test_names_that_the_desk_has_not_ahead_of_all_else(self):
        self.ok(of_net("n", chain(9, 0)), of_table("t", round_table("a", 401)), "table u\ntable 1 b")
        # Where the other names would be refused for what they have.
        self.refused(TooMany, "make x n", word="stands")
        self.no_row("alike t q", "alike q u", "make X n", "least X t", "build X 2 t", "build x 4 t", "least x q", "alike t U")

    def test_a_row_that_is_wrong_ahead_of_its_lines(self):
        self.no_row("net X\nnet 9", "table 1\ntable 0", "net n m\nnet 9", "table t t\nx")

    def test_nothing_is_turned_by_what_is_refused(self):
        before = self.all_told()
        for row in ("net n\nnet 9", "table t\ntable 0", "make t q", "build n 1 t", "least t q"):
            with self.assertRaises(MannerError):
                self.desk.say(row)
        self.assertEqual(self.all_told(), before)


class TwoDesksTest(unittest.TestCase):
    def test_by_turns(self):
        one, other = Desk(), Desk()
        self.assertEqual(one.say("table t\ntable 1 a\nstep 0 0 a 0"), "ok")
        with self.assertRaises(NoRow):
            other.say("may t")
        self.assertEqual(other.say("table t\ntable 1 a\nstep 0 0 a 1"), "ok")
        self.assertEqual(one.say("net n\nnet 1 a"), "ok")
        with self.assertRaises(NoRow):
            other.say("make u n")
        self.assertEqual(other.say("net n\nnet 2 b"), "ok")
        for desk in (one, other, one):
            self.assertEqual(desk.say("make u n"), "ok")
        self.assertEqual((one.say("may t"), other.say("may t")), ("a:0", "a:1"))
        self.assertEqual((one.say("may u"), other.say("may u")), ("- a:0", "- b:0 b:1"))
        self.assertEqual(one.say("least t u"), "ok")
        self.assertEqual(other.say("may t"), "a:1")
        with self.assertRaises(NoRow):
            Desk().say("lines t")

    def test_told_the_same_they_tell_the_same(self):
        rows = ["table t\n" + LINES, "build n 2 t", "make u n", "least v u", "lines v", "may v a:0", "alike t v", "wish v b 1"]
        one, other = Desk(), Desk()
        for row in rows:
            self.assertEqual(one.say(row), other.say(row))


if __name__ == "__main__":
    unittest.main()
