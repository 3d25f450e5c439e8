import copy
import itertools
import random
import unittest

from mannerports.errors import MannerError, TooMany
from mannerports.flatting import flat_of
from mannerports.leastchecker import lets_least
from mannerports.leasts import least_paper, least_table
from mannerports.likechecker import lets_alike
from mannerports.likening import likeness
from mannerports.tables import is_table
from mannerports.tabling import table_of
from kinds import chain, random_table, round_table
from papers import behind, going, is_plain, least_by_words, least_paper_by_words, least_refusal, sets_from, spread
from samples import many_ports, random_net_within
from systems import parting, table_system

A, B = (("a", 0),), (("b", 1),)
ZERO, ONE = (("a", 0),), (("a", 1),)


def line(count, many=None):
    """A table of so many stands one behind the other."""
    return (("a",), many or count, tuple((k, A, k + 1) for k in range(count - 1)))


def one_ago(count):
    """A table in which a 2 goes on just where a 1 was seen so many moments ago."""
    steps = [(0, ZERO, 0), (0, ONE, 0), (0, ONE, 1), (count, (("a", 2),), 0)]
    for k in range(1, count):
        steps += [(k, ZERO, k + 1), (k, ONE, k + 1)]
    return (("a",), count + 1, tuple(sorted(steps)))


def two_rounds(one, other):
    """A table that goes into two rounds at once, each of so many stands."""
    steps = [(0, A, 1), (0, A, one + 1)]
    steps += [(1 + k, A, 1 + (k + 1) % one) for k in range(one)]
    steps += [(one + 1 + k, A, one + 1 + (k + 1) % other) for k in range(other)]
    return (("a",), one + other + 1, tuple(sorted(steps)))


class LeastTableTest(unittest.TestCase):
    def look(self, table):
        before = copy.deepcopy(table)
        least = least_table(table)
        self.assertEqual(table, before)
        self.assertIs(is_table(least), True)
        self.assertTrue(is_plain(least))
        self.assertEqual(least[0], table[0])
        self.assertIsNone(parting(table_system(least), table_system(table)))
        self.numbered_as_they_come(least)
        self.assertEqual(least_table(least), least)
        return least

    def numbered_as_they_come(self, least):
        come = [0]
        for stand in come:
            for moment in sorted(going(least, (stand,))):
                come += [end for end in behind(least, (stand,), moment) if end not in come]
        self.assertEqual(come, list(range(least[1])))

    def test_of_no_steps_and_of_no_ports(self):
        for many in (1, 2, 2000):
            self.assertEqual(self.look(((), many, ())), ((), 1, ()))
            self.assertEqual(self.look((("b", "a"), many, ())), (("b", "a"), 1, ()))
        self.assertEqual(self.look(((), 3, ((0, (), 1), (1, (), 2)))), ((), 3, ((0, (), 1), (1, (), 2))))
        self.assertEqual(self.look(((), 3, ((0, (), 1), (1, (), 2), (2, (), 0)))), ((), 1, ((0, (), 0),)))

    def test_stands_that_do_not_come(self):
        self.assertEqual(self.look((("a",), 4, ((0, A, 2), (1, A, 1), (3, (), 0)))), line(2))

    def test_several_ways_along_a_row(self):
        table = (("b", "a"), 3, ((0, A, 1), (0, A, 2), (1, B, 0), (2, A, 2)))
        self.assertEqual(self.look(table), (("b", "a"), 3, ((0, A, 1), (1, A, 2), (1, B, 0), (2, A, 2))))

    def test_numbered_by_moments_not_by_stands(self):
        table = (("a", "b"), 3, ((0, A, 2), (0, B, 1), (1, (), 1), (2, A, 1)))
        self.assertEqual(self.look(table), (("a", "b"), 3, ((0, A, 1), (0, B, 2), (1, A, 2), (2, (), 2))))

    def test_seen_ports_in_their_order(self):
        for seen in itertools.permutations("abc"):
            self.assertEqual(self.look((seen, 1, ((0, A + B, 0),))), (seen, 1, ((0, A + B, 0),)))
        self.look((many_ports(6)[::-1], 2, ((0, tuple((port, 2) for port in many_ports(6)), 1),)))

    def test_round_ones(self):
        for count in (1, 2, 3, 50):
            self.assertEqual(self.look(round_table("a", count)), (("a",), 1, ((0, (), 0), (0, A, 0))))

    def test_one_that_is_least_already(self):
        for count in (1, 2, 3, 50):
            self.assertEqual(self.look(line(count)), line(count))

    def test_parted_behind_many_moments_alone(self):
        # Two ways from the begin that differ by how far they lead.
        for count in (1, 2, 10):
            steps = [(0, A, 1), (0, B, count + 2)]
            steps += [(k, A, k + 1) for k in range(1, count + 1)] + [(k, A, k + 1) for k in range(count + 2, 2 * count + 3)]
            table = (("a", "b"), 2 * count + 4, tuple(sorted(steps)))
            self.assertEqual(self.look(table)[1], count + 3)

    def test_by_the_words(self):
        chance = random.Random(241)
        for _ in range(200):
            table = random_table(chance, "ab"[:chance.randint(0, 2)], chance.randint(1, 5), 12)
            for one in (table, spread(chance, table, 2)):
                self.assertEqual(self.look(one), least_by_words(one))

    def test_alike_tables_have_the_same_least_one(self):
        chance = random.Random(242)
        for _ in range(80):
            table = random_table(chance, "ab", 4, 12)
            other = spread(chance, table)
            self.assertEqual(self.look(table)[1:], self.look(other)[1:])

    def test_as_few_as_any(self):
        # Against all plain tables of two stands and of one, by two moments.
        small = {}
        for ends in itertools.product([None, 0, 1], repeat=4):
            steps = [(k // 2, (ZERO, ONE)[k % 2], end) for k, end in enumerate(ends) if end is not None]
            table = (("a",), 2, tuple(sorted(steps)))
            small[table] = 1 if all(end == 0 for begin, moment, end in steps if begin == 0) else 2
        chance = random.Random(243)
        for _ in range(60):
            table = random_table(chance, "a", 3, 6)
            table = table[:2] + (tuple(step for step in table[2] if step[1]),)
            fewest = [many for one, many in small.items() if parting(table_system(one), table_system(table)) is None]
            if fewest:
                self.assertEqual(self.look(table)[1], min(fewest))
            else:
                self.assertGreater(self.look(table)[1], 2)


class LeastPaperTest(unittest.TestCase):
    def look(self, table):
        before = copy.deepcopy(table)
        paper = least_paper(table)
        self.assertEqual(table, before)
        self.assertEqual(lets_least(table, paper), least_table(table)[1])
        return paper

    def test_small_ones(self):
        for table in (((), 1, ()), line(1), line(2), line(7), round_table("a", 5), one_ago(3), (("b", "a"), 9, ()),
                      (("b", "a"), 3, ((0, A, 1), (0, A, 2), (1, B, 0), (2, A, 2)))):
            self.assertIsNone(least_refusal(table, self.look(table)))

    def test_by_chance(self):
        chance = random.Random(244)
        for _ in range(150):
            table = random_table(chance, "abc"[:chance.randint(0, 3)], chance.randint(1, 6), 16)
            self.look(table)
            paper = self.look(spread(chance, table, 2))
            self.assertEqual(paper[0][1], least_paper_by_words(table)[0][1])

    def test_of_nets(self):
        chance = random.Random(245)
        for deep in (1, 2, 3):
            for _ in range(10):
                self.look(table_of(flat_of(random_net_within(chance, deep, 1))))
        self.look(table_of(chain(3, 2, 2)))


class BoundTest(unittest.TestCase):
    def refused(self, table):
        for ask in (least_table, least_paper):
            with self.assertRaises(TooMany) as caught:
                ask(table)
            self.assertIsInstance(caught.exception, MannerError)
            self.assertEqual(caught.exception.word, "stands")

    def test_just_400_sets(self):
        self.assertEqual(least_table(line(400)), line(400))
        self.assertEqual(least_table(line(400, 2000)), line(400))
        self.assertEqual(least_table(round_table("a", 400)), round_table("a", 1))
        self.assertEqual(least_paper(round_table("a", 400))[0], round_table("a", 1))
        table = line(400)[:2] + (line(400)[2] + ((399, (), 0),),)
        paper = least_paper(table)
        self.assertEqual(paper[0], table)
        self.assertIs(lets_alike(table, paper[0], paper[1]), True)

    def test_a_paper_of_many_stands_is_let_by(self):
        table = line(120)
        self.assertEqual(lets_least(table, least_paper(table)), 120)

    def test_401_sets(self):
        self.refused(line(401))
        self.refused(line(2000))
        # Whatever the least table would be.
        self.refused(round_table("a", 401))

    def test_more_sets_than_stands(self):
        self.assertEqual(len(sets_from(one_ago(4))), 2 ** 4)
        self.assertEqual(least_table(one_ago(8))[1], 2 ** 8)
        self.refused(one_ago(9))

    def test_just_400_sets_of_fewer_stands(self):
        for one, other, right in ((19, 21, True), (16, 25, False)):
            table = two_rounds(one, other)
            self.assertEqual(len(sets_from(table)), 400 if right else 401)
            if right:
                self.assertEqual(lets_least(table, least_paper(table)), least_table(table)[1])
            else:
                self.refused(table)

    def test_sets_that_do_not_come_are_not_counted(self):
        table = (("a",), 2000, ((0, A, 0),) + tuple((k, A, k - 1) for k in range(2, 2000)))
        self.assertEqual(least_table(table), (("a",), 1, ((0, A, 0),)))

    def test_what_was_told_is_taken_again(self):
        least = least_table(line(400))
        self.assertEqual(least_table(least), least)
        self.assertEqual(likeness(least, line(400))[0], "alike")


if __name__ == "__main__":
    unittest.main()
