import copy
import random
import unittest

from mannerports.flatting import flat_of
from mannerports.tabling import table_of
from mannerports.wishchecker import lets_wish
from mannerports.wishing import wish_paper
from kinds import chain, random_table, round_table
from papers import passed_from, stands_that_come, wish_refusal
from samples import random_net_tabled

A, B = (("a", 0),), (("b", 1),)
WISH = ("b", 1)


class WishingTest(unittest.TestCase):
    def look(self, table, wish):
        before = copy.deepcopy((table, wish))
        paper = wish_paper(table, wish)
        self.assertEqual((table, wish), before)
        self.assertIsNone(wish_refusal(table, wish, paper), (table, wish, paper))
        self.assertIs(lets_wish(table, wish, paper), True)
        can = all(passed_from(table, wish, stand) for stand in stands_that_come(table))
        self.assertEqual(paper[0], "can" if can else "waits", (table, wish))
        return paper

    def test_no_steps(self):
        for many in (1, 2, 2000):
            self.assertEqual(self.look((("b",), many, ()), WISH), ("waits", (), (0,)))

    def test_wishes_that_no_step_passes(self):
        self.assertEqual(self.look(round_table("a", 3), ("a", 1))[0], "waits")
        self.assertEqual(self.look((("a", "b"), 2, ((0, A, 1), (1, A, 0))), WISH)[0], "waits")

    def test_steps_from_a_stand_to_itself(self):
        self.assertEqual(self.look((("b",), 1, ((0, B, 0),)), WISH), ("can", (0,)))
        self.assertEqual(self.look((("b",), 1, ((0, (), 0), (0, B, 0))), WISH), ("can", (0,)))
        self.assertEqual(self.look((("b",), 1, ((0, (), 0),)), WISH)[0], "waits")
        self.assertEqual(self.look((("b",), 2, ((0, (), 1), (0, B, 0), (1, (), 1))), WISH)[0], "waits")

    def test_where_it_comes_to_an_end(self):
        # Once passed, or passed by, the wish comes no more.
        self.assertEqual(self.look((("b",), 2, ((0, B, 1),)), WISH)[0], "waits")
        self.assertEqual(self.look((("b",), 2, ((0, (), 1), (0, B, 0))), WISH)[0], "waits")

    def test_stands_that_do_not_come(self):
        table = (("a", "b"), 4, ((0, B, 0), (1, A, 2), (2, A, 2), (3, A, 0)))
        self.assertEqual(self.look(table, WISH)[0], "can")
        table = (("a", "b"), 4, ((0, A, 1), (1, A, 0), (2, B, 2), (3, B, 0)))
        self.assertEqual(self.look(table, WISH)[0], "waits")

    def test_far_ones(self):
        steps = tuple((k, A, k + 1) for k in range(1999))
        early = tuple(sorted(steps + tuple((k, B, k) for k in range(1999))))
        for all_steps, word in ((steps + ((1999, B, 0),), "can"), (steps + ((1999, (), 0),), "waits"), (early, "waits")):
            table = (("a", "b"), 2000, all_steps)
            paper = wish_paper(table, WISH)
            self.assertEqual(paper[0], word)
            self.assertIs(lets_wish(table, WISH, paper), True)
        # The walk to where it never comes is long.
        self.assertEqual((len(paper[1]), paper[2]), (1999, (1999,)))

    def test_by_chance(self):
        chance = random.Random(261)
        told = {"can": 0, "waits": 0}
        for _ in range(600):
            many = chance.randint(1, 6)
            table = random_table(chance, "ab", many, 3 * many, 3)
            told[self.look(table, (chance.choice("ab"), chance.randrange(3)))[0]] += 1
        self.assertGreater(min(told.values()), 50)

    def test_of_nets(self):
        chance = random.Random(262)
        for deep in (1, 2, 3):
            for _ in range(10):
                table = table_of(flat_of(random_net_tabled(chance, deep, 1)))
                for port in table[0]:
                    self.look(table, (port, 0))
        queue = table_of(chain(3, 1, 2))
        self.assertEqual([self.look(queue, (port, 0))[0] for port in queue[0]], ["can", "can"])
        # Into a place without a way out nothing can come behind the first one.
        stuck = table_of((1, ("a",), (("place", "a", "b", None), ("only", "b", "c", ()))))
        self.assertEqual(self.look(stuck, ("a", 0)), ("waits", ((A, 1),), (1,)))

    def test_the_same_wish_asked_again(self):
        table = round_table("a", 4)
        self.assertEqual(wish_paper(table, ("a", 0))[0], wish_paper(table, ("a", 0))[0])


if __name__ == "__main__":
    unittest.main()
