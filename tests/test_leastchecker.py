import copy
import itertools
import random
import unittest

from mannerports.errors import MannerError, NoLeast
from mannerports.leastchecker import lets_least
from bending import bends, of_other_kind
from kinds import random_table
from papers import going, least_paper_by_words, least_refusal, spread
from samples import ODD, deep_list
from systems import parting, table_system

A, B = (("a", 0),), (("b", 1),)

# By a to 1 or to 2, by b back from either; 3 goes on and doesn't come.
TABLE = (("a", "b"), 4, ((0, A, 1), (0, A, 2), (1, B, 0), (2, B, 0), (3, A, 3)))
PLAIN = (("b", "a"), 2, ((0, A, 1), (1, B, 0)))
ALIKE = (((0,), (0,)), ((1, 2), (1,)))
PAPER = (PLAIN, ALIKE, ((), (A,)), ((A,),))

# Three stands: by a one after another, then it ends.
LINE = (("a",), 3, ((0, A, 1), (1, A, 2)))
LINE_PAPER = (LINE, (((0,), (0,)), ((1,), (1,)), ((2,), (2,))), ((), (A,), (A, A)), ((A, A), (A,), (A,)))

NOTHING = ((), 1, ())
NOTHING_PAPER = (NOTHING, (((0,), (0,)),), ((),), ())


def with_(paper, at, other):
    return paper[:at] + (other,) + paper[at + 1:]


class LeastcheckerTest(unittest.TestCase):
    def lets(self, table, paper):
        self.assertIsNone(least_refusal(table, paper), (table, paper))
        before = copy.deepcopy((table, paper))
        told = lets_least(table, paper)
        self.assertEqual(told, paper[0][1])
        self.assertIs(type(told), int)
        self.assertEqual(repr((table, paper)), repr(before))

    def refused(self, word, number, table, thing):
        self.assertEqual(least_refusal(table, thing), (word, number), (table, thing))
        before = copy.deepcopy(thing)
        with self.assertRaises(NoLeast, msg=repr(thing)) as caught:
            lets_least(table, thing)
        self.assertIs(type(caught.exception), NoLeast)
        self.assertIsInstance(caught.exception, MannerError)
        self.assertEqual((caught.exception.word, caught.exception.number), (word, number), (table, thing))
        self.assertIs(type(caught.exception.number), int)
        self.assertEqual(repr(thing), repr(before))

    def look(self, table, thing):
        """As the words say; the word of the refusal, or None."""
        refusal = least_refusal(table, thing)
        if refusal is None:
            self.lets(table, thing)
            return None
        self.refused(*refusal, table, thing)
        return refusal[0]


class RightTest(LeastcheckerTest):
    def test_right_papers(self):
        self.lets(TABLE, PAPER)
        self.lets(LINE, LINE_PAPER)
        self.lets(NOTHING, NOTHING_PAPER)
        self.assertEqual([lets_least(TABLE, PAPER), lets_least(LINE, LINE_PAPER)], [2, 3])

    def test_longer_ways_and_partings(self):
        for ways in (((A, B), (A,)), ((A, B) * 40, (A, B, A)), ((), (A, B) * 50 + (A,))):
            self.lets(TABLE, with_(PAPER, 2, ways))
        for parting_row in ((B,), (A, B, A), (A, B, A, B), (B, A, B), (A, B) * 70, (B, A) * 70):
            self.lets(TABLE, with_(PAPER, 3, (parting_row,)))

    def test_ports_in_another_order(self):
        for seen in itertools.permutations("ab"):
            for other in itertools.permutations("ab"):
                self.lets((seen,) + TABLE[1:], with_(PAPER, 0, (other,) + PLAIN[1:]))

    def test_stands_in_another_order(self):
        turned = (("a",), 3, ((0, A, 2), (2, A, 1)))
        paper = (turned, (((2,), (1,)), ((1,), (2,)), ((0,), (0,))), ((), (A, A), (A,)), ((A,), (A, A), (A,)))
        self.lets(LINE, paper)

    def test_greater_likeness_papers(self):
        self.lets(TABLE, with_(PAPER, 1, ALIKE[::-1] + ALIKE + (((1,), (1,)),)))

    def test_by_chance(self):
        chance = random.Random(231)
        for _ in range(80):
            table = random_table(chance, "ab"[:chance.randint(0, 2)], chance.randint(1, 4), 9)
            for one in (table, spread(chance, table, 2)):
                self.lets(one, least_paper_by_words(one))


class ShapeTest(LeastcheckerTest):
    def test_any_plain_thing(self):
        for thing in ODD + (deep_list(88), list(PAPER), {0: PAPER}, (PAPER,), PAPER[:3], PAPER + ((),), "least", PLAIN):
            self.refused("shape", -1, TABLE, thing)

    def test_each_of_the_four(self):
        for thing in ODD + (deep_list(88), "abc", PAPER):
            for at in (0, 2, 3):
                # A tuple of one empty row is of the shape of partings.
                if (at, thing) != (3, ((),)):
                    self.refused("shape", -1, TABLE, with_(PAPER, at, thing))
            self.look(TABLE, with_(PAPER, 1, thing))

    def test_other_kinds_at_every_place(self):
        for table, paper in ((TABLE, PAPER), (LINE, LINE_PAPER), (NOTHING, NOTHING_PAPER)):
            for bent in of_other_kind(paper):
                self.refused("shape", -1, table, bent)

    def test_bent_at_every_place(self):
        words = set()
        for table, paper in ((TABLE, PAPER), (LINE, LINE_PAPER), (NOTHING, NOTHING_PAPER)):
            for bent in bends(paper):
                words.add(self.look(table, bent))
        self.assertTrue({"shape", "begin", "pair", "way", "parting"} <= words, words)

    def test_plain_that_is_not_plain(self):
        forked = (("a", "b"), 2, ((0, A, 0), (0, A, 1), (1, B, 0)))
        self.refused("shape", -1, TABLE, with_(PAPER, 0, forked))
        self.refused("shape", -1, TABLE, (TABLE, PAPER[1], ((),) * 4, ((A,),) * 6))

    def test_plain_that_is_no_table(self):
        for plain in (PLAIN[:2] + (PLAIN[2][::-1],), (("a", "a"), 2, ()), (("a", "b"), 0, ()), (("a", "b"), 2001, ()),
                      (("a", "b"), 2, ((0, A, 2),)), (("a", "b"), 2, ((0, (("a", 3),), 1),)), list(PLAIN)):
            self.refused("shape", -1, TABLE, with_(PAPER, 0, plain))

    def test_plain_that_sees_other_ports(self):
        for seen in ((), ("a",), ("a", "c"), ("a", "b", "c")):
            self.refused("shape", -1, TABLE, ((seen, 1, ()), PAPER[1], ((),), ()))

    def test_one_way_or_parting_more_or_fewer(self):
        for at in (2, 3):
            for table, paper in ((TABLE, PAPER), (LINE, LINE_PAPER)):
                rows = paper[at]
                for other in (rows + (rows[0],), rows + ((),), rows[1:], rows[:-1], rows * 2, ()):
                    if other != rows:
                        self.refused("shape", -1, table, with_(paper, at, other))
        self.refused("shape", -1, NOTHING, with_(NOTHING_PAPER, 3, ((),)))
        self.refused("shape", -1, NOTHING, with_(NOTHING_PAPER, 2, ()))

    def test_rows(self):
        for row in (None, [], [A], A[0], (A[0],), ((("a", 3),),), ((("a", -1),),), ((("c", 0),),), ((("b", 0), ("a", 0)),),
                    ((("a", 0), ("a", 1)),), ((("a", True),),), ((["a", 0],),), ([("a", 0)],), (A, None), (A, "a"), "a", 0,
                    ((("a", 0, 0),),), ((("a",),),), {0: A}, (({"a": 0},),), (A, [A])):
            self.refused("shape", -1, TABLE, with_(PAPER, 2, ((), row)))
            self.refused("shape", -1, TABLE, with_(PAPER, 2, (row, (A,))))
            self.refused("shape", -1, TABLE, with_(PAPER, 3, (row,)))

    def test_things_that_no_step_has_are_no_wrong_shape(self):
        self.refused("way", 1, TABLE, with_(PAPER, 2, ((), ((("a", 2), ("b", 2)),))))
        self.refused("parting", 0, TABLE, with_(PAPER, 3, (((("a", 2),),),)))

    def test_shape_ahead_of_all_else(self):
        self.refused("shape", -1, TABLE, (PLAIN, None, (A, A), ()))
        self.refused("shape", -1, TABLE, (PLAIN, (), ((A,), ()), ()))
        self.refused("shape", -1, TABLE, (PLAIN, ALIKE, ((A,), ()), (None,)))


class RefusalTest(LeastcheckerTest):
    def test_what_the_checker_of_likeness_refuses(self):
        for thing in ODD + (list(ALIKE), ALIKE + (None,), (ALIKE[0], ((True, 2), (1,))), (ALIKE[0], ((1, 2), (2,)))):
            if thing != ():
                self.refused("shape", -1, TABLE, with_(PAPER, 1, thing))
        self.refused("begin", -1, TABLE, with_(PAPER, 1, ()))
        self.refused("begin", -1, TABLE, with_(PAPER, 1, ALIKE[1:]))
        self.refused("pair", 0, TABLE, with_(PAPER, 1, ALIKE[:1]))
        self.refused("pair", 1, LINE, with_(LINE_PAPER, 1, LINE_PAPER[1][:2]))
        self.refused("moment", 2, TABLE, with_(PAPER, 1, ALIKE + (((0,), (1,)),)))
        self.refused("moment", 0, TABLE, with_(PAPER, 1, (((3,), (1,)),) + ALIKE))

    def test_tables_with_other_rows(self):
        more = (("a", "b"), 4, tuple(sorted(TABLE[2] + ((2, A, 0),))))
        self.refused("moment", 1, more, PAPER)
        self.refused("moment", 0, (("a", "b"), 4, ()), with_(PAPER, 1, (((0,), (0,)),)))

    def test_way(self):
        for ways, number in ((((A,), (A,)), 0), (((), ()), 1), (((), (B,)), 1), (((B,), (A,)), 0), (((A,), ()), 0),
                             (((), (A, B)), 1), (((), (A, A)), 1), (((A, B, A), (A,)), 0), (((), ((),)), 1)):
            self.refused("way", number, TABLE, with_(PAPER, 2, ways))

    def test_parting(self):
        # From both, from neither, from both by none, from one but not along all of it.
        for row in ((), (A, A), ((),), (B, B), (A, B, B), (A + B,)):
            self.refused("parting", 0, TABLE, with_(PAPER, 3, (row,)))
        rows = LINE_PAPER[3]
        self.refused("parting", 0, LINE, with_(LINE_PAPER, 3, ((A,),) + rows[1:]))
        self.refused("parting", 0, LINE, with_(LINE_PAPER, 3, ((A, A, A),) + rows[1:]))
        self.refused("parting", 1, LINE, with_(LINE_PAPER, 3, (rows[0], (), rows[2])))
        self.refused("parting", 2, LINE, with_(LINE_PAPER, 3, rows[:2] + ((A, A),)))

    def test_partings_stand_by_rising_twos(self):
        # Of four stands: each row parts just some of them.
        plain = (("a",), 4, ((0, A, 1), (1, A, 2), (2, A, 3)))
        alike = tuple(((k,), (k,)) for k in range(4))
        ways = tuple((A,) * k for k in range(4))
        rows = [(A,) * (4 - high) for low, high in itertools.combinations(range(4), 2)]
        self.lets(plain, (plain, alike, ways, tuple(rows)))
        for first, second in itertools.combinations(range(6), 2):
            turned = list(rows)
            turned[first], turned[second] = turned[second], turned[first]
            self.look(plain, (plain, alike, ways, tuple(turned)))

    def test_a_plain_table_that_is_not_least(self):
        # Two stands from which the same rows go on: no row parts them.
        plain = (("a",), 2, ((0, A, 1), (1, A, 0)))
        table = (("a",), 1, ((0, A, 0),))
        alike = (((0,), (0,)), ((0,), (1,)))
        for count in range(8):
            self.refused("parting", 0, table, (plain, alike, ((), (A,)), ((A,) * count,)))
        # A stand that doesn't come: no way leads there.
        for way in ((), (A,), (A, A), ((),)):
            loose = (("a",), 2, ((0, A, 0),))
            self.refused("way", 1, table, (loose, alike[:1], ((), way), (((A,),))))

    def test_where_several_are_due(self):
        wrong_ways, wrong_partings = ((A,), ()), ((),)
        self.refused("begin", -1, TABLE, (PLAIN, (), wrong_ways, wrong_partings))
        self.refused("pair", 0, TABLE, (PLAIN, ALIKE[:1], wrong_ways, wrong_partings))
        self.refused("way", 0, TABLE, (PLAIN, ALIKE, wrong_ways, wrong_partings))
        self.refused("way", 1, TABLE, (PLAIN, ALIKE, ((), ()), wrong_partings))
        self.refused("way", 2, LINE, LINE_PAPER[:2] + (((), (A,), (A,)), ((), (), ())))
        self.refused("parting", 1, LINE, LINE_PAPER[:3] + (((A, A), (), ()),))

    def test_bent_by_chance(self):
        chance = random.Random(232)
        words = {}
        for _ in range(25):
            table = random_table(chance, "ab"[:chance.randint(1, 2)], chance.randint(2, 3), 7)
            paper = least_paper_by_words(table)
            if sum(len(row) for row in paper[2] + paper[3]) < 8:
                for bent in bends(paper):
                    word = self.look(table, bent)
                    words[word] = words.get(word, 0) + 1
        self.assertTrue({"shape", "begin", "moment", "pair", "way", "parting", None} <= set(words), words)


class ShowsTest(LeastcheckerTest):
    """Whoever wrote the paper: no plain table with these rows has fewer stands."""

    def test_bent_papers_that_are_let_by(self):
        chance = random.Random(233)
        let = 0
        for _ in range(400):
            table = random_table(chance, "a", chance.randint(2, 4), 6, 2)
            other = random_table(chance, "a", chance.randint(1, 3), 5, 2)
            right = least_paper_by_words(table)
            plain = chance.choice([right[0], other, least_paper_by_words(other)[0]])
            paper = (plain, right[1], self.bent_rows(chance, plain, right[2]), self.bent_rows(chance, plain, right[3]))
            if self.look(chance.choice([table, other, plain]), paper) is None:
                let += 1
                self.assertEqual(plain[1], right[0][1])
        self.assertGreater(let, 30)

    def bent_rows(self, chance, plain, rows):
        rows = list(rows)
        moments = sorted(going(plain, range(plain[1]))) + [A]
        if rows and chance.random() < 0.5:
            at = chance.randrange(len(rows))
            rows[at] = chance.choice([rows[at] + (chance.choice(moments),), rows[at][1:], (chance.choice(moments),) + rows[at]])
        return tuple(rows)

    def test_against_all_plain_tables_of_fewer_stands(self):
        chance = random.Random(234)
        moments = [A, (("a", 1),)]
        smaller = []
        for ends in itertools.product([None, 0, 1], repeat=4):
            steps = [(k // 2, moments[k % 2], end) for k, end in enumerate(ends) if end is not None]
            smaller.append((("a",), 2, tuple(sorted(steps))))
        for _ in range(40):
            table = random_table(chance, "a", 3, 7, 2)
            table = table[:2] + (tuple(step for step in table[2] if step[1]),)
            paper = least_paper_by_words(table)
            many = lets_least(table, paper)
            alike = [one for one in smaller if parting(table_system(one), table_system(table)) is None]
            if many > 2:
                self.assertEqual(alike, [])
            if many == 2:
                # One stand is too few: of those of two none has its rows that never comes to the other one.
                self.assertEqual([one for one in alike if all(end == 0 for begin, moment, end in one[2] if begin == 0)], [])


if __name__ == "__main__":
    unittest.main()
