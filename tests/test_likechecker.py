import copy
import itertools
import random
import unittest

from mannerports.errors import MannerError, NoAlike
from mannerports.likechecker import lets_alike
from mannerports.tables import table_has
from bending import bends, of_other_kind
from kinds import random_table, round_table
from papers import alike_refusal, behind, going, pairs_from, spread
from samples import ODD, deep_list, many_ports
from systems import parting, table_system

A, B = (("a", 0),), (("b", 1),)

# By a to 1, there by b back; the other one goes by a to 1 or 2, of which either goes back by b.
ONE = (("a", "b"), 2, ((0, A, 1), (1, B, 0)))
OTHER = (("b", "a"), 3, ((0, A, 1), (0, A, 2), (1, B, 0), (2, B, 0)))
PAPER = (((0,), (0,)), ((1,), (1, 2)))
NOTHING = ((), 1, ())


def grown(chance, one, other, paper):
    """A greater paper that is let by, too, if this one is: with pairs that don't come, in any order, some twice."""
    pairs = list(paper)
    ones, others = chance.choice(paper)
    more = (tuple(sorted(set(ones) | set(chance.choice(paper)[0]))), others)
    for pair in (more, (tuple(range(one[1])), tuple(range(other[1])))):
        closed = pairs_from(one, other, pair)
        if all(going(one, mine) == going(other, yours) for mine, yours in closed):
            pairs += closed
    pairs += chance.sample(pairs, chance.randint(0, len(pairs)))
    chance.shuffle(pairs)
    return tuple(pairs)


class LikecheckerTest(unittest.TestCase):
    def lets(self, one, other, paper):
        self.assertIsNone(alike_refusal(one, other, paper))
        before = copy.deepcopy((one, other, paper))
        self.assertIs(lets_alike(one, other, paper), True)
        self.assertEqual(repr((one, other, paper)), repr(before))

    def refused(self, word, number, one, other, thing):
        self.assertEqual(alike_refusal(one, other, thing), (word, number), (one, other, thing))
        before = copy.deepcopy(thing)
        with self.assertRaises(NoAlike, msg=repr(thing)) as caught:
            lets_alike(one, other, thing)
        self.assertIs(type(caught.exception), NoAlike)
        self.assertIsInstance(caught.exception, MannerError)
        self.assertEqual((caught.exception.word, caught.exception.number), (word, number), (one, other, thing))
        self.assertIs(type(caught.exception.number), int)
        self.assertEqual(repr(thing), repr(before))

    def look(self, one, other, thing):
        """As the words say; whether it was let by."""
        refusal = alike_refusal(one, other, thing)
        if refusal:
            self.refused(*refusal, one, other, thing)
        else:
            self.lets(one, other, thing)
        return refusal is None


class RightTest(LikecheckerTest):
    def test_right_papers(self):
        self.lets(ONE, OTHER, PAPER)
        self.lets(NOTHING, NOTHING, (((0,), (0,)),))
        self.lets(NOTHING, ((), 2000, ((1, (), 1999),)), (((0,), (0,)),))
        self.lets(round_table("a", 2000), round_table("a", 1), tuple(((k,), (0,)) for k in range(2000)))

    def test_in_any_order_and_twice(self):
        for paper in itertools.permutations(PAPER + PAPER[:1]):
            self.lets(ONE, OTHER, paper)
        self.lets(ONE, OTHER, PAPER * 50)

    def test_greater_than_need_be(self):
        more = (((1,), (1,)), ((1,), (2,)), ((0,), (0,)), ((0, 1), (0, 1)), ((0, 1), (0, 2)), ((0, 1), (0, 1, 2)))
        for count in range(len(more) + 1):
            for pairs in itertools.combinations(more, count):
                self.look(ONE, OTHER, PAPER + pairs)
        self.lets(ONE, OTHER, more + PAPER)

    def test_ports_in_another_order(self):
        table = (("c", "a", "b"), 1, ((0, A + B, 0),))
        for seen in itertools.permutations("abc"):
            self.lets(table, (seen,) + table[1:], (((0,), (0,)),))

    def test_by_chance(self):
        chance = random.Random(211)
        for _ in range(150):
            table = random_table(chance, "abc"[:chance.randint(0, 3)], chance.randint(1, 4), 10)
            one, other = spread(chance, table), spread(chance, table)
            paper = tuple(pairs_from(one, other))
            self.lets(one, other, paper)
            self.lets(one, other, grown(chance, one, other, paper))
            self.lets(other, one, tuple((others, ones) for ones, others in paper))
            # Papers that are let by of one and of another pair of tables may stand as one.
            self.lets(one, one, tuple(pairs_from(one, one)))

    def test_more_pairs_than_2000(self):
        one, other = round_table("a", 69), round_table("a", 29)
        self.lets(one, other, tuple(((k % 69,), (k % 29,)) for k in range(2001)))


class RefusalTest(LikecheckerTest):
    def test_ports(self):
        for seen in ((), ("a",), ("a", "c"), ("a", "b", "c"), ("b",)):
            other = (seen, 3, ())
            for thing in (PAPER, (), None, [], (((0,), (0,)),)):
                self.refused("ports", -1, ONE, other, thing)
                self.refused("ports", -1, other, ONE, thing)

    def test_ports_that_no_step_has(self):
        self.refused("ports", -1, (("a",), 1, ()), (("b",), 1, ()), (((0,), (0,)),))
        self.refused("ports", -1, (many_ports(6), 1, ()), (many_ports(5), 1, ()), (((0,), (0,)),))

    def test_any_plain_thing(self):
        for thing in ODD + (deep_list(88), "alike", {0: PAPER}, list(PAPER), (PAPER,), PAPER + (None,), PAPER + ((),)):
            if thing != ():
                self.refused("shape", -1, ONE, OTHER, thing)

    def test_shape_at_every_place(self):
        for bent in of_other_kind(PAPER):
            self.refused("shape", -1, ONE, OTHER, bent)
        for bent in bends(PAPER):
            self.look(ONE, OTHER, bent)

    def test_stands_that_do_not_rise_empty_ones_and_beyond(self):
        for pair in (((), (0,)), ((0,), ()), ((), ()), ((1, 0), (0,)), ((0,), (2, 1)), ((0, 0), (0,)), ((0,), (1, 1)),
                     ((2,), (0,)), ((0, 2), (0,)), ((0,), (3,)), ((0,), (0, 3)), ((-1,), (0,)), ((0,), (-1,)),
                     ((0,), (-1, 0)), ((10 ** 39,), (0,)), ((0,),), ((0,), (0,), (0,)), (0, 0), ((0,), 0), (0, (0,)),
                     ((None,), (0,)), (("0",), (0,)), ("a", "b"), ((0,), "0"), ((True,), (1,)), ((1,), (True, 2)),
                     ((False,), (0,)), ((0,), [0]), ([0], (0,)), [(0,), (0,)], {(0,): (0,)}, (((0,),), (0,))):
            for paper in (PAPER + (pair,), (pair,) + PAPER, (PAPER[0], pair, PAPER[1]), (pair,)):
                self.refused("shape", -1, ONE, OTHER, paper)

    def test_begin(self):
        self.refused("begin", -1, ONE, OTHER, ())
        self.refused("begin", -1, ONE, OTHER, PAPER[1:])
        self.refused("begin", -1, ONE, OTHER, (((0,), (0, 1)),))
        self.refused("begin", -1, ONE, OTHER, (((0, 1), (0,)), ((0,), (1,))))

    def test_moment_from_the_ones_alone_and_from_the_others_alone(self):
        more = (("a", "b"), 2, ((0, A, 1), (1, (), 1), (1, B, 0)))
        self.refused("moment", 1, more, OTHER, PAPER)
        self.refused("moment", 0, more, OTHER, PAPER[::-1])
        self.refused("moment", 1, OTHER, more, tuple((others, ones) for ones, others in PAPER))
        self.refused("moment", 0, ONE, (("a", "b"), 1, ()), (((0,), (0,)),))
        self.refused("moment", 0, (("a", "b"), 1, ()), ONE, (((0,), (0,)),))
        # Of some of the ones, not of all of them.
        self.refused("moment", 2, ONE, OTHER, PAPER + (((0, 1), (1, 2)),))
        self.refused("moment", 2, ONE, OTHER, PAPER + (((1,), (0, 1)),))
        # By a thing, by a port, alone.
        for moment in ((("a", 1),), (("b", 0),), (("a", 0), ("b", 0)), ()):
            other = (("a", "b"), 2, ((0, moment, 1), (1, B, 0)))
            self.refused("moment", 0, ONE, other, (((0,), (0,)), ((1,), (1,))))

    def test_pair(self):
        self.refused("pair", 0, ONE, OTHER, PAPER[:1])
        self.refused("pair", 0, ONE, OTHER, (((0,), (0,)), ((1,), (1,))))
        line = (("a",), 4, ((0, A, 1), (1, A, 2), (2, A, 3)))
        paper = tuple(((k,), (k,)) for k in range(4))
        self.lets(line, line, paper)
        for gone in (1, 2, 3):
            self.refused("pair", gone - 1, line, line, paper[:gone] + paper[gone + 1:])
            self.refused("pair", gone - 1, line, line, paper[:gone] + (((gone,), (gone - 1, gone)),) + paper[gone + 1:])

    def test_where_several_are_due(self):
        bad = (("a", "b"), 3, ((0, A, 1), (1, A, 1), (1, B, 2), (2, (), 2)))
        # Pair by pair: what the first one is refused with goes, be it its moment or its pair.
        self.refused("pair", 0, ONE, bad, (((0,), (0,)), ((0,), (1,))))
        self.refused("moment", 0, ONE, bad, (((0,), (1,)), ((0,), (0,))))
        self.refused("moment", 1, ONE, bad, (((0,), (0,)), ((1,), (1,)), ((0,), (2,))))
        # Of one pair its moment goes ahead of its pair.
        both = (("a", "b"), 2, ((0, (), 1), (0, A, 1), (1, B, 0)))
        self.refused("moment", 0, ONE, both, (((0,), (0,)),))
        # Shape ahead of begin, begin ahead of moment.
        self.refused("shape", -1, ONE, bad, (((1,), (1,)), ((2,), (0,))))
        self.refused("begin", -1, ONE, bad, (((1,), (1,)), ((0,), (2,))))

    def test_bent_by_chance(self):
        chance = random.Random(212)
        words = {}
        for _ in range(60):
            table = random_table(chance, "ab"[:chance.randint(1, 2)], chance.randint(1, 3), 8)
            one, other = spread(chance, table, 2), spread(chance, table, 2)
            if chance.random() < 0.4:
                other = random_table(chance, one[0], other[1], 8)
            for bent in bends(tuple(pairs_from(one, other))[:4]):
                self.look(one, other, bent)
                refusal = alike_refusal(one, other, bent) or ("let",)
                words[refusal[0]] = words.get(refusal[0], 0) + 1
        self.assertEqual(sorted(words), ["begin", "let", "moment", "pair", "shape"])


class ShowsTest(LikecheckerTest):
    """Whoever wrote the paper: where it is let by both tables have the same rows."""

    def test_bent_papers_that_are_let_by(self):
        chance = random.Random(213)
        let = 0
        for _ in range(1500):
            table = random_table(chance, "ab", chance.randint(1, 3), 7)
            one, other = spread(chance, table, 2), spread(chance, table, 2)
            if chance.random() < 0.5:
                other = random_table(chance, "ab", chance.randint(1, 3), 7)
            paper = list(grown(chance, one, other, tuple(pairs_from(one, other))))
            for _ in range(chance.randint(1, 3)):
                self.bend(chance, one, other, paper)
            if self.look(one, other, tuple(paper)):
                let += 1
                self.assertIsNone(parting(table_system(one), table_system(other)))
                self.same_rows(one, other)
        self.assertGreater(let, 150)

    def bend(self, chance, one, other, paper):
        at = chance.randrange(len(paper))
        stands = [tuple(sorted(chance.sample(range(table[1]), chance.randint(1, table[1])))) for table in (one, other)]
        kind = chance.randrange(4)
        if kind == 0 and len(paper) > 1:
            del paper[at]
        elif kind == 1:
            paper.insert(at, tuple(stands))
        elif kind == 2:
            paper[at] = (stands[0], paper[at][1])
        else:
            paper[at] = (paper[at][0], stands[1])

    def same_rows(self, one, other):
        moments = sorted(going(one, range(one[1])) | going(other, range(other[1])))[:4]
        for length in range(4):
            for row in itertools.product(moments, repeat=length):
                self.assertIs(table_has(one, row), table_has(other, row))

    def test_no_paper_of_few_pairs_for_tables_that_are_not_alike(self):
        one = (("a",), 2, ((0, A, 1),))
        for steps in (((0, A, 0),), ((0, A, 1), (1, A, 0)), (), ((0, (), 0),)):
            other = (("a",), 2, steps)
            self.assertIsNotNone(parting(table_system(one), table_system(other)))
            sets = ((0,), (1,), (0, 1))
            pairs = list(itertools.product(sets, sets))
            for count in range(1, 10):
                for paper in itertools.combinations(pairs, count):
                    with self.assertRaises(NoAlike):
                        lets_alike(one, other, paper)

    def test_behind_is_of_all_the_stands(self):
        # A paper that follows but one way of several along a row is not let by.
        one = (("a",), 3, ((0, A, 1), (0, A, 2), (1, A, 1)))
        other = (("a",), 1, ((0, A, 0),))
        self.assertEqual(behind(one, (0,), A), (1, 2))
        self.refused("pair", 0, one, other, (((0,), (0,)), ((1,), (0,))))
        self.lets(one, other, (((0,), (0,)), ((1,), (0,)), ((1, 2), (0,))))


if __name__ == "__main__":
    unittest.main()
