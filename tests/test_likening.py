import copy
import itertools
import random
import unittest

from mannerports.errors import MannerError, NoAlike, TooMany
from mannerports.flatting import flat_of
from mannerports.likechecker import lets_alike
from mannerports.likening import likeness
from mannerports.machines import machine_has
from mannerports.netmachines import machine_of
from mannerports.tables import table_has
from mannerports.tabling import table_by, table_of
from mannerports.walks import has_row
from kinds import chain, random_table, round_table
from oracle import every_row
from papers import alike_refusal, going, pairs_from, spread
from samples import many_ports, random_net_within, ring
from systems import net_system, parting, table_system

A, B = (("a", 0),), (("b", 1),)
NOTHING = ((), 1, ())


def going_round(count, more=()):
    """A table that goes round so many stands by a alone, with some steps more."""
    return (("a",), max(count, 2), tuple(sorted([(k, A, (k + 1) % count) for k in range(count)] + list(more))))


class LikenessTest(unittest.TestCase):
    def alike(self, one, other):
        before = copy.deepcopy((one, other))
        told = likeness(one, other)
        self.assertEqual((one, other), before)
        self.assertIs(type(told), tuple)
        self.assertEqual((len(told), told[0]), (2, "alike"), (one, other))
        self.assertIs(lets_alike(one, other, told[1]), True)
        return told[1]

    def parted(self, one, other, length=None):
        told = likeness(one, other)
        self.assertIs(type(told), tuple)
        self.assertEqual((len(told), told[0]), (2, "parted"), (one, other))
        self.assertIs(type(told[1]), tuple)
        self.assertIsNot(table_has(one, told[1]), table_has(other, told[1]))
        if length is not None:
            self.assertEqual(len(told[1]), length)
        return told[1]

    def refused(self, one, other):
        with self.assertRaises(TooMany) as caught:
            likeness(one, other)
        self.assertIsInstance(caught.exception, MannerError)
        self.assertEqual(caught.exception.word, "pairs")

    def no_ports(self, one, other):
        with self.assertRaises(NoAlike) as caught:
            likeness(one, other)
        self.assertEqual((caught.exception.word, caught.exception.number), ("ports", -1))


class AlikeTest(LikenessTest):
    def test_a_table_and_itself(self):
        chance = random.Random(221)
        for table in [NOTHING, (("b", "a"), 2000, ()), round_table("a", 7)] + [
                random_table(chance, "abc", 4, 12) for _ in range(60)]:
            self.alike(table, table)

    def test_unlike_numbers_of_stands_and_several_ways(self):
        self.alike((("a",), 1, ((0, A, 0),)), (("a",), 2, ((0, A, 0), (0, A, 1))))
        self.alike(round_table("a", 3), round_table("a", 5))
        self.alike(NOTHING, ((), 9, ((1, (), 0),)))
        chance = random.Random(222)
        for _ in range(150):
            table = random_table(chance, "abc"[:chance.randint(0, 3)], chance.randint(1, 5), 14)
            one, other = spread(chance, table), spread(chance, table)
            self.alike(one, other)
            self.alike(other, table)

    def test_ports_in_another_order(self):
        for seen in itertools.permutations("abc"):
            self.alike((seen, 1, ((0, A + B, 0),)), (("a", "b", "c"), 2, ((0, A + B, 1), (1, A + B, 0))))

    def test_the_paper_is_by_the_words(self):
        chance = random.Random(223)
        for _ in range(60):
            table = random_table(chance, "ab", 3, 9)
            one, other = spread(chance, table), spread(chance, table)
            self.assertIsNone(alike_refusal(one, other, self.alike(one, other)))


class PartedTest(LikenessTest):
    def test_by_one_moment(self):
        empty = (("a", "b"), 1, ())
        for moment in ((), A, B, A + B):
            table = (("b", "a"), 1, ((0, moment, 0),))
            self.assertEqual(self.parted(empty, table), (moment,))
            self.assertEqual(self.parted(table, empty), (moment,))
        self.parted((("a",), 1, ((0, A, 0),)), (("a",), 1, ((0, (("a", 1),), 0),)), 1)

    def test_by_several(self):
        line = (("a",), 9, tuple((k, A, k + 1) for k in range(8)))
        for count in range(9):
            shorter = (("a",), 9, tuple((k, A, k + 1) for k in range(count)))
            if count < 8:
                self.assertEqual(self.parted(line, shorter), (A,) * (count + 1))
                self.assertEqual(self.parted(shorter, line), (A,) * (count + 1))
            else:
                self.alike(line, shorter)

    def test_a_shortest_one_of_several(self):
        # Parted behind a a a, and behind b.
        one = (("a", "b"), 4, ((0, A, 1), (0, B, 3), (1, A, 2), (2, A, 0)))
        other = (("a", "b"), 4, ((0, A, 1), (0, B, 3), (1, A, 2), (3, (), 3)))
        self.assertEqual(self.parted(one, other), (B, ()))

    def test_by_what_goes_on_from_all_stands_together(self):
        # From each of the one's stands behind a less goes on than from the other's, but from both the same.
        one = (("a", "b"), 3, ((0, A, 1), (0, A, 2), (1, A, 0), (2, B, 0)))
        other = (("a", "b"), 2, ((0, A, 1), (1, A, 0), (1, B, 0)))
        self.alike(one, other)

    def test_steps_that_do_not_come_part_nothing(self):
        self.alike((("a",), 3, ((0, A, 0), (1, (), 2))), (("a",), 1, ((0, A, 0),)))

    def test_by_the_words(self):
        chance = random.Random(224)
        told = {"alike": 0, "parted": 0}
        for _ in range(600):
            ports = "ab"[:chance.randint(0, 2)]
            one = random_table(chance, ports, chance.randint(1, 4), 12)
            other = random_table(chance, ports, chance.randint(1, 4), 12)
            if chance.random() < 0.7:
                other = spread(chance, one)
                steps = list(other[2])
                if steps and chance.random() < 0.8:
                    del steps[chance.randrange(len(steps))]
                    other = other[:2] + (tuple(steps),)
            row = parting(table_system(one), table_system(other))
            if row is None:
                self.alike(one, other)
            else:
                self.parted(one, other, len(row))
                self.parted(other, one, len(row))
            told[likeness(one, other)[0]] += 1
        self.assertGreater(min(told.values()), 100)

    def test_no_shorter_row_parts_them(self):
        chance = random.Random(225)
        lengths = set()
        for _ in range(150):
            table = random_table(chance, "ab", 4, 9)
            other = spread(chance, table, 2)
            if table[2]:
                gone = chance.choice(other[2])
                other = other[:2] + (tuple(step for step in other[2] if step != gone),)
            if likeness(table, other)[0] == "alike":
                continue
            row = self.parted(table, other)
            lengths.add(len(row))
            moments = sorted(going(table, range(table[1])) | going(other, range(other[1])))
            for length in range(min(len(row), 4)):
                for shorter in itertools.product(moments, repeat=length):
                    self.assertIs(table_has(table, shorter), table_has(other, shorter))
        self.assertGreaterEqual(len(lengths), 3)

    def test_of_both_words_just_one(self):
        chance = random.Random(226)
        for _ in range(200):
            one, other = random_table(chance, "a", 3, 5), random_table(chance, "a", 3, 5)
            words = {likeness(one, other)[0], likeness(other, one)[0]}
            self.assertEqual(len(words), 1)
            if words == {"parted"}:
                # No paper is let by of two that are parted, not even one of all pairs.
                sets = [stands for count in (1, 2, 3) for stands in itertools.combinations(range(3), count)]
                for paper in (tuple(pairs_from(one, other)), tuple(itertools.product(sets, sets))):
                    with self.assertRaises(NoAlike):
                        lets_alike(one, other, paper)


class BoundTest(LikenessTest):
    def test_just_2000_pairs(self):
        self.assertEqual(len(pairs_from(going_round(16), going_round(25))), 400)
        self.alike(going_round(2000), going_round(1))
        self.alike(going_round(16), going_round(125))
        self.alike(going_round(125), going_round(16))
        self.alike(going_round(2000), going_round(2000))

    def test_2001_pairs(self):
        self.refused(going_round(69), going_round(29))
        self.refused(going_round(29), going_round(69))
        self.refused(going_round(1999), going_round(2))

    def test_pairs_that_do_not_come_are_not_counted(self):
        steps = tuple((k, (), k) for k in range(2, 2000))
        self.alike((("a",), 2000, ((0, A, 1), (1, A, 0)) + steps), (("a",), 2000, ((0, A, 0), (0, A, 1)) + steps))

    def test_parted_early(self):
        for least in (0, 5):
            more = [(least, (), 0)]
            self.assertEqual(self.parted(going_round(16, more), going_round(125)), (A,) * least + ((),))
            self.assertEqual(self.parted(going_round(16), going_round(125, more)), (A,) * least + ((),))
            self.refused(going_round(69, more), going_round(29))
            self.refused(going_round(69), going_round(29, more))

    def test_parted_late(self):
        row = self.parted(going_round(2000), going_round(2000, [(1999, (), 0)]), 2000)
        self.assertEqual(row, (A,) * 1999 + ((),))
        line = (("a",), 2000, tuple((k, A, k + 1) for k in range(1999)))
        self.parted(line, going_round(1), 2000)
        self.assertEqual(likeness(line, going_round(1)), ("parted", (A,) * 2000))

    def test_what_was_told_is_taken_again(self):
        line = (("a",), 2000, tuple((k, A, k + 1) for k in range(1999)))
        row = likeness(line, going_round(1))[1]
        self.assertIs(table_has(line, row), False)
        self.assertIs(table_has(line, row[:-1]), True)

    def test_ports(self):
        for seen in ((), ("b",), ("a", "b")):
            self.no_ports((seen, 1, ()), round_table("a", 3))
            self.no_ports(round_table("a", 3), (seen, 1, ()))
        self.no_ports((many_ports(6), 1, ()), (many_ports(5) + ("z",), 1, ()))

    def test_ports_ahead_of_too_many(self):
        one, other = going_round(69), going_round(29)
        self.no_ports((("a", "b"),) + one[1:], other)
        self.no_ports(one, (("b", "a"),) + other[1:])


class WholeTest(LikenessTest):
    """A net, its machine, its table and the table by its machine have the same rows."""

    def look(self, net, length):
        flat = flat_of(net)
        table, machine = table_of(flat), machine_of(net)
        other = table_by(machine)
        self.assertEqual(sorted(table[0]), sorted(other[0]))
        self.alike(table, other)
        self.alike(other, table)
        for row in every_row(net, length):
            had = has_row(flat, row)
            self.assertIs(machine_has(machine, row), had)
            self.assertIs(table_has(table, row), had)
            self.assertIs(table_has(other, row), had)
        return table

    def test_nets_within_one_another(self):
        chance = random.Random(227)
        for deep in (1, 2, 3):
            for _ in range(20):
                net = random_net_within(chance, deep, 1)
                self.assertIsNone(parting(table_system(self.look(net, 2)), net_system(net)))
            for _ in range(6):
                self.look(random_net_within(chance, deep, 2), 1)

    def test_chains_and_rings(self):
        for net in (chain(5, 3), chain(3, 2, 3), (1, ("raa", "rac"), ring("r", 20))):
            self.alike(table_of(net), table_by(machine_of(net)))


if __name__ == "__main__":
    unittest.main()
