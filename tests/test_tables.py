import copy
import itertools
import random
import unittest

from mannerports.tables import goes_on, is_table, stands_behind, table_breaks, table_has
from bending import bends, of_other_kind
from kinds import random_moment, random_table, round_table, table_by_words
from samples import ODD, deep_list, many_ports
from systems import bent_rows, some_row, table_system

A, B = (("a", 0),), (("b", 1),)

# From 0 by a to 1 or 2, of which just one goes on by b; at 3 nothing goes on.
FORKED = (("b", "a"), 4, ((0, (), 0), (0, A, 1), (0, A, 2), (1, (), 1), (1, B, 0), (2, A, 3), (2, A + B, 0)))
LEAST = ((), 1, ())


class IsTableTest(unittest.TestCase):
    def right(self, *things):
        for thing in things:
            self.assertTrue(table_by_words(thing), thing)
            self.assertIs(is_table(thing), True, thing)

    def wrong(self, *things):
        for thing in things:
            self.assertFalse(table_by_words(thing), thing)
            self.assertIs(is_table(thing), False, thing)

    def test_right_ones(self):
        self.right(FORKED, LEAST, ((), 1, ((0, (), 0),)), (("a",), 2000, ((1999, (("a", 2),), 1999),)))
        self.right((many_ports(6)[::-1], 1, ((0, tuple((port, 2) for port in many_ports(6)), 0),)))
        self.right(round_table("a", 2000))

    def test_any_other_plain_thing(self):
        self.wrong(*ODD)
        self.wrong(deep_list(88), FORKED + (None,), FORKED[:2], (FORKED,), list(FORKED), {0: FORKED}, "table")

    def test_other_kinds_at_every_place(self):
        for right in (FORKED, LEAST, round_table("b", 2)):
            for bent in of_other_kind(right):
                self.wrong(bent)

    def test_bent_at_every_place_by_the_words(self):
        for bent in bends(FORKED):
            self.assertIs(is_table(bent), table_by_words(bent), bent)

    def test_bent_by_chance_by_the_words(self):
        chance = random.Random(111)
        for _ in range(15):
            right = random_table(chance, "abc"[:chance.randint(0, 3)], chance.randint(1, 4), 6)
            self.right(right)
            for bent in bends(right):
                self.assertIs(is_table(bent), table_by_words(bent), bent)

    def test_seen_ports(self):
        self.right((many_ports(6), 1, ()))
        self.wrong((many_ports(7), 1, ()))
        for seen in (("a", "a"), ("a", "b", "a"), ("A",), ("",), ("abcdefghi",), ("a", 1), ("a", None), ["a"], "a", None,
                     {"a": 0}, ("a", ("b",))):
            self.wrong((seen, 1, ()))

    def test_many(self):
        for many in (1, 2, 1999, 2000):
            self.right((("a",), many, ()))
        for many in (0, 2001, -1, True, False, None, "1", (1,), [1], 10 ** 39):
            self.wrong((("a",), many, ()))

    def test_steps_that_do_not_rise(self):
        for first, second in ((4, 5), (0, 1), (1, 2), (2, 3), (5, 6)):
            steps = list(FORKED[2])
            steps[first], steps[second] = steps[second], steps[first]
            self.wrong(FORKED[:2] + (tuple(steps),))
        self.wrong(FORKED[:2] + (FORKED[2][::-1],))

    def test_a_step_twice(self):
        for number, step in enumerate(FORKED[2]):
            self.wrong(FORKED[:2] + (FORKED[2][:number] + (step,) + FORKED[2][number:],))

    def test_stands_beyond(self):
        self.right((("a",), 4, ((3, A, 3),)))
        for bad in (4, 5, -1, True, None, "0", (0,)):
            self.wrong((("a",), 4, ((bad, A, 0),)), (("a",), 4, ((0, A, bad),)))

    def test_moments(self):
        seen = ("c", "a", "b")
        for moment in ((), A, B, A + B, (("a", 2), ("b", 2), ("c", 2))):
            self.right((seen, 1, ((0, moment, 0),)))
        for moment in (B + A, A + A, (("a", 0), ("a", 1)), (("d", 0),), (("a", 0), ("d", 0)), (("a", 3),), (("a", -1),),
                       (("a", True),), (("a", None),), (("a", "0"),), (["a", 0],), [("a", 0)], (("a",),), (("a", 0, 0),),
                       ("a", 0), (None,), None, "a", {"a": 0}, (("", 0),), ((("a",), 0),), ((["a"], 0),), 0):
            self.wrong((seen, 1, ((0, moment, 0),)))

    def test_steps_of_other_kinds(self):
        for step in ((0, (), 0, 0), (0, ()), (0,), (), [0, (), 0], None, 0, "000", ((0, (), 0),), (0, 0, ()), {0: 0}):
            self.wrong((("a",), 1, (step,)))
        for steps in ([(0, (), 0)], None, {}, {(0, (), 0): 1}, (0, (), 0), 0, "", True):
            self.wrong((("a",), 1, steps))


class StandsTest(unittest.TestCase):
    def test_behind_from_one_and_from_several(self):
        self.assertEqual(stands_behind(FORKED, (0,), A), (1, 2))
        self.assertEqual(stands_behind(FORKED, (1,), B), (0,))
        self.assertEqual(stands_behind(FORKED, (1, 2), B), (0,))
        self.assertEqual(stands_behind(FORKED, (0, 2), A), (1, 2, 3))
        self.assertEqual(stands_behind(FORKED, (0, 1, 2, 3), ()), (0, 1))
        self.assertEqual(stands_behind(FORKED, (2, ), A + B), (0,))

    def test_behind_none(self):
        self.assertEqual(stands_behind(FORKED, (), A), ())
        self.assertEqual(stands_behind(FORKED, (3,), ()), ())
        self.assertEqual(stands_behind(FORKED, (2,), ()), ())
        self.assertEqual(stands_behind(FORKED, (0,), (("a", 1),)), ())
        self.assertEqual(stands_behind(LEAST, (0,), ()), ())

    def test_each_stand_once_and_rising(self):
        table = (("a",), 3, ((0, A, 2), (1, A, 0), (1, A, 2), (2, A, 0)))
        self.assertEqual(stands_behind(table, (0, 1, 2), A), (0, 2))

    def test_goes_on(self):
        self.assertEqual(goes_on(FORKED, (0,)), [(), A])
        self.assertEqual(goes_on(FORKED, (1, 2)), [(), A, A + B, B])
        self.assertEqual(goes_on(FORKED, (3,)), [])
        self.assertEqual(goes_on(FORKED, ()), [])
        self.assertEqual(goes_on(FORKED, (0, 1, 2, 3)), [(), A, A + B, B])

    def test_by_the_words(self):
        chance = random.Random(112)
        for _ in range(60):
            table = random_table(chance, "abc", 4, 14)
            for count in range(5):
                stands = tuple(sorted(chance.sample(range(4), count)))
                steps = [step for step in table[2] if step[0] in stands]
                found = goes_on(table, stands)
                self.assertIs(type(found), list)
                self.assertEqual(found, sorted({moment for begin, moment, end in steps}))
                for moment in found + [random_moment(chance, "abc")]:
                    behind = stands_behind(table, stands, moment)
                    self.assertIs(type(behind), tuple)
                    self.assertEqual(behind, tuple(sorted({end for begin, seen, end in steps if seen == moment})))


class RowTest(unittest.TestCase):
    def look(self, table, row, broken):
        self.assertIs(table_has(table, row), broken is None, (table, row))
        self.assertEqual(table_breaks(table, row), broken, (table, row))

    def test_the_empty_row(self):
        for table in (LEAST, FORKED, round_table("a", 3)):
            self.look(table, (), None)

    def test_a_table_without_steps_has_the_empty_row_alone(self):
        self.look(LEAST, ((),), 0)
        self.look((("a",), 5, ()), (A,), 0)
        # Steps that begin elsewhere don't come.
        self.look((("a",), 5, ((1, A, 0),)), (A,), 0)

    def test_several_ways_along_a_row(self):
        self.look(FORKED, (A, B), None)
        self.look(FORKED, (A, A + B, (), A, B), None)
        self.look(FORKED, (A, A), None)
        self.look(FORKED, (A, A, ()), 2)
        self.look(FORKED, (A, (), B), None)
        self.look(FORKED, (A, (), A + B), 2)

    def test_broken_at_the_first_a_middle_and_the_last_moment(self):
        self.look(FORKED, (B,), 0)
        self.look(FORKED, (B, A, B), 0)
        self.look(FORKED, (A, (("b", 0),), A, B), 1)
        self.look(FORKED, (A, B, B, A), 2)
        self.look(FORKED, (A, B, A, B, A, (), (), A), 7)

    def test_ports_and_things_that_no_step_has(self):
        self.look(FORKED, ((), (("z", 0),)), 1)
        self.look(FORKED, ((("a", 2),),), 0)

    def test_sixty_moments(self):
        self.look(FORKED, (A, B) * 30, None)
        self.look(FORKED, (A, B) * 29 + (A, A), None)
        self.look(FORKED, (A, B) * 29 + (B, A), 58)
        self.look(FORKED, (A, A + B, A, (), B) * 12, None)
        self.look(FORKED, (A, A + B, A, (), B) * 11 + (A, A + B, A, (), A), 59)
        self.look(round_table("a", 7), (A,) * 60, None)

    def test_somewhat_more_than_sixty(self):
        self.look(FORKED, (A, B) * 40, None)
        self.look(FORKED, (A, B) * 40 + (B,), 80)

    def test_large_tables(self):
        moments = [((port, thing),) for port in "abcdef" for thing in (0, 1, 2)]
        steps = [(k, moment, (k * 7 + number) % 2000) for k in range(2000) for number, moment in enumerate(moments)]
        table = (tuple("fedcba"), 2000, tuple(sorted(steps)))
        self.assertIs(is_table(table), True)
        self.look(table, tuple(moments[k % 18] for k in range(60)), None)
        self.look(table, tuple(moments[k % 18] for k in range(59)) + ((),), 59)

    def test_by_the_words(self):
        chance = random.Random(113)
        for _ in range(80):
            table = random_table(chance, "abc", 4, 16)
            system = table_system(table)
            rows = [some_row(chance, system, length) for length in (1, 3, 8, 60)]
            for row in rows:
                self.look(table, row, None)
                for bent in bent_rows(chance, row, "abcd", 2) if row else ():
                    had = len(system.along(bent)) - 1
                    self.look(table, bent, None if had == len(bent) else had)


class HandedInTest(unittest.TestCase):
    def test_a_told_list_may_be_changed(self):
        told = goes_on(FORKED, (1, 2))
        before = list(told)
        told.append("more")
        told.reverse()
        self.assertEqual(goes_on(FORKED, (1, 2)), before)

    def test_nothing_handed_in_is_changed(self):
        for thing in ([("a",), 1, [(0, (), 0)]], (["b", "a"], 1, ()), {"a": [2, 1]}, (("b", "a"), 2, [(1, (), 0), (0, (), 0)])):
            before = copy.deepcopy(thing)
            self.assertIs(is_table(thing), False)
            self.assertEqual(thing, before)

    def test_told_stands_are_taken_again(self):
        stands = (0,)
        for moment in (A, (), B, A, A + B):
            stands = stands_behind(FORKED, stands, moment)
            self.assertTrue(stands)
        for moment in itertools.chain(goes_on(FORKED, stands)):
            self.assertTrue(stands_behind(FORKED, stands, moment))


if __name__ == "__main__":
    unittest.main()
