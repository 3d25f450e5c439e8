import copy
import itertools
import random
import unittest

from mannerports.errors import MannerError, NoWish
from mannerports.wishchecker import lets_wish
from bending import bends, of_other_kind
from kinds import random_moment, random_table, round_table
from papers import is_moment, passed_from, stands_that_come, wish_refusal
from samples import ODD, deep_list

A, B = (("a", 0),), (("b", 1),)
WISH = ("b", 1)

# By a on to 1 and 2, by b from 2 back; 3 goes on to itself and doesn't come.
CAN = (("a", "b"), 4, ((0, (), 0), (0, A, 1), (1, A, 2), (2, (), 0), (2, B, 0), (3, A, 3)))
CAN_PAPER = ("can", (2, 1, 0, None))

# By a to 1, from where b goes on, or by the still moment to 2 and on to 3, which go round.
WAITS = (("b", "a"), 5, ((0, (), 2), (0, A, 1), (1, B, 0), (2, A, 3), (3, (), 2), (3, A, 3), (4, A, 4)))
WAITS_PAPER = ("waits", (((), 2),), (2, 3))
NOTHING = (("b",), 1, ())


class WishcheckerTest(unittest.TestCase):
    def lets(self, table, wish, paper):
        self.assertIsNone(wish_refusal(table, wish, paper), (table, wish, paper))
        before = copy.deepcopy((table, wish, paper))
        self.assertIs(lets_wish(table, wish, paper), True)
        self.assertEqual(repr((table, wish, paper)), repr(before))

    def refused(self, word, number, table, wish, thing):
        self.assertEqual(wish_refusal(table, wish, thing), (word, number), (table, wish, thing))
        before = copy.deepcopy(thing)
        with self.assertRaises(NoWish, msg=repr(thing)) as caught:
            lets_wish(table, wish, thing)
        self.assertIs(type(caught.exception), NoWish)
        self.assertIsInstance(caught.exception, MannerError)
        self.assertEqual((caught.exception.word, caught.exception.number), (word, number), (table, wish, thing))
        self.assertIs(type(caught.exception.number), int)
        self.assertEqual(repr(thing), repr(before))

    def look(self, table, wish, thing):
        """As the words say; the word of the refusal, or None."""
        refusal = wish_refusal(table, wish, thing)
        if refusal is None:
            self.lets(table, wish, thing)
            return None
        self.refused(*refusal, table, wish, thing)
        return refusal[0]


class RightTest(WishcheckerTest):
    def test_can(self):
        self.lets(CAN, WISH, CAN_PAPER)
        self.lets((("b",), 1, ((0, B, 0),)), WISH, ("can", (0,)))
        self.lets((("b",), 2, ((0, B, 1), (1, (), 0))), WISH, ("can", (0, 1)))
        self.lets(round_table("a", 2000), ("a", 0), ("can", (0,) * 2000))
        self.lets(round_table("a", 2000), ("a", 0), ("can", (0,) + tuple(range(1999, 0, -1))))

    def test_greater_ranks(self):
        for ranks in ((3, 1, 0, None), (10 ** 39, 7, 0, None), (2, 1, 0, None)):
            self.lets(CAN, WISH, ("can", ranks))
        more = (("a", "b"), 3, ((0, B, 1), (1, A, 2), (1, B, 0), (2, A, 0)))
        for ranks in ((0, 0, 1), (0, 0, 5), (0, 3, 1), (0, 6, 5)):
            self.lets(more, WISH, ("can", ranks))

    def test_ranks_of_stands_that_do_not_come(self):
        table = (("a", "b"), 3, ((0, B, 0), (1, A, 2), (2, B, 2)))
        for ranks in ((0, 1, 0), (0, None, None), (0, None, 0), (0, 9, 0)):
            self.lets(table, WISH, ("can", ranks))

    def test_waits(self):
        self.lets(WAITS, WISH, WAITS_PAPER)
        self.lets(NOTHING, WISH, ("waits", (), (0,)))
        self.lets((("b",), 2, ((0, (), 1), (1, (), 0))), WISH, ("waits", (), (0, 1)))

    def test_longer_walks_and_more_stands(self):
        for walk in ((((), 2), (A, 3), (A, 3), ((), 2)), ((A, 1), (B, 0), ((), 2)), ((A, 1), (B, 0)) * 60 + (((), 2), (A, 3))):
            for stands in ((2, 3), (2, 3, 4)):
                self.lets(WAITS, WISH, ("waits", walk, stands))

    def test_fewer_stands(self):
        table = (("a", "b"), 3, ((0, A, 1), (1, A, 1), (1, (), 2), (2, A, 2)))
        table = table[:2] + (tuple(sorted(table[2])),)
        self.lets(table, WISH, ("waits", ((A, 1), ((), 2)), (2,)))
        self.lets(table, WISH, ("waits", ((A, 1),), (1, 2)))
        self.lets(table, WISH, ("waits", (), (0, 1, 2)))

    def test_the_very_pair_is_passed(self):
        # Another thing at the port, and the thing at another port, are no wish.
        for moment in ((("b", 0),), (("a", 1),), (("a", 1), ("b", 2)), ()):
            table = (("a", "b"), 1, ((0, moment, 0),))
            self.lets(table, WISH, ("waits", (), (0,)))
            self.refused("rank", 0, table, WISH, ("can", (0,)))
        for moment in (B, A + B, (("a", 1), ("b", 1))):
            table = (("a", "b"), 1, ((0, moment, 0),))
            self.lets(table, WISH, ("can", (0,)))
            self.refused("passes", 0, table, WISH, ("waits", (), (0,)))


class ShapeTest(WishcheckerTest):
    def test_any_plain_thing(self):
        for thing in ODD + (deep_list(88), list(CAN_PAPER), {0: CAN_PAPER}, (CAN_PAPER,), "can", "waits", ("can",), ("waits",),
                            ("waits", ()), ("can", CAN_PAPER[1], ()), ("waits", (), (0,), ()), (CAN_PAPER[1], "can"),
                            ("Can", CAN_PAPER[1]), ("waits", CAN_PAPER[1]), ("can", (), (0,)), ("", ()), (True, (0,) * 5),
                            (None, (), (0,)), (["can"], CAN_PAPER[1]), ("wait", (), (0,))):
            self.refused("shape", -1, CAN, WISH, thing)
            self.refused("shape", -1, WAITS, WISH, thing)

    def test_other_kinds_at_every_place(self):
        for bent in of_other_kind(CAN_PAPER):
            self.refused("shape", -1, CAN, WISH, bent)
        # Within a moment of a walk it is no wrong kind, but no step.
        words = {self.look(WAITS, WISH, bent) for bent in of_other_kind(("waits", ((A, 1), (B, 0), ((), 2)), (2, 3)))}
        self.assertEqual(words, {"shape", "walk"})

    def test_bent_at_every_place(self):
        words = {self.look(CAN, WISH, bent) for bent in bends(CAN_PAPER)}
        self.assertEqual(words, {"shape", "begin", "leads", "rank", None})
        words = {self.look(WAITS, WISH, bent) for bent in bends(("waits", ((A, 1), (B, 0), ((), 2)), (2, 3)))}
        self.assertEqual(words, {"shape", "walk", "end", "leads", "passes", None} - {"passes"})

    def test_as_many_ranks(self):
        ranks = CAN_PAPER[1]
        for other in (ranks + (None,), ranks + (0,), ranks[:-1], (), ranks * 2):
            self.refused("shape", -1, CAN, WISH, ("can", other))

    def test_ranks(self):
        for rank in (True, False, -1, -(10 ** 39), "0", (), (0,), [0], {}, "None"):
            for at in range(4):
                ranks = CAN_PAPER[1][:at] + (rank,) + CAN_PAPER[1][at + 1:]
                self.refused("shape", -1, CAN, WISH, ("can", ranks))

    def test_stands(self):
        for stands in ((), (3, 2), (2, 2), (2, 3, 3), (2, 5), (-1, 2), (2, True), (False, 2), ("2",), [2, 3], None, 2, {2: 3}, (None,)):
            self.refused("shape", -1, WAITS, WISH, ("waits", (((), 2),), stands))

    def test_walks(self):
        for walk in (None, [], [((), 2)], 0, "", {}, (None,), ((),), (((),),), (((), 2, 0),), (((), 5),), (((), -1),),
                     (((), True),), (((), None),), (((), "2"),), ([(), 2],), ((2, ()),), ((), 2), (((), (2,)),)):
            self.refused("shape", -1, WAITS, WISH, ("waits", walk, (2, 3)))

    def test_moments_of_a_walk_are_any_plain_things_by_kind(self):
        for moment in ODD + (deep_list(80), (("b", True),), [("b", 1)], (["b", 1],), (("b", 1, 1),), (("c", 0),), (("b", 3),),
                             (("b", 1), ("a", 0)), (("a", 0), ("a", 0))):
            if is_moment(("a", "b"), moment):
                self.assertEqual(moment, ())
                continue
            self.refused("walk", 0, WAITS, WISH, ("waits", ((moment, 1), ((), 2)), (2, 3)))
            self.refused("walk", 1, WAITS, WISH, ("waits", ((A, 1), (moment, 0), ((), 2)), (2, 3)))

    def test_truths_in_moments_are_no_numbers(self):
        table = (("b",), 2, ((0, (("b", 0),), 1), (1, (("b", 1),), 1)))
        self.refused("walk", 0, table, ("b", 2), ("waits", (((("b", False),), 1),), (1,)))
        self.refused("walk", 1, table, ("b", 2), ("waits", (((("b", 0),), 1), ((("b", True),), 1)), (1,)))
        self.lets(table, ("b", 2), ("waits", (((("b", 0),), 1), ((("b", 1),), 1)), (1,)))


class RefusalTest(WishcheckerTest):
    def test_begin(self):
        self.refused("begin", 0, CAN, WISH, ("can", (None, 1, 0, None)))
        self.refused("begin", 0, CAN, WISH, ("can", (None,) * 4))
        self.refused("begin", 0, NOTHING, WISH, ("can", (None,)))

    def test_leads_of_can(self):
        self.refused("leads", 0, CAN, WISH, ("can", (2, None, 0, None)))
        self.refused("leads", 1, CAN, WISH, ("can", (2, 1, None, None)))
        # The least one where several are so, be it one that doesn't come.
        table = (("a", "b"), 5, ((0, B, 0), (1, B, 1), (2, B, 1), (3, A, 4), (3, B, 3)))
        self.refused("leads", 3, table, WISH, ("can", (0, 0, 0, 0, None)))
        self.refused("leads", 2, table, WISH, ("can", (0, None, 0, 0, None)))
        # A stand with None may lead anywhere.
        self.lets(table, WISH, ("can", (0, None, None, None, None)))

    def test_rank(self):
        self.refused("rank", 0, CAN, WISH, ("can", (0, 1, 0, None)))
        self.refused("rank", 0, CAN, WISH, ("can", (1, 1, 0, None)))
        self.refused("rank", 0, CAN, WISH, ("can", (1, 2, 0, None)))
        self.refused("rank", 1, CAN, WISH, ("can", (3, 2, 2, None)))
        self.refused("rank", 1, CAN, WISH, ("can", (2, 0, 0, None)))
        # A stand from which a step passes the wish, but with more than 0, still needs a lesser one.
        self.refused("rank", 2, CAN, WISH, ("can", (4, 3, 1, None)))
        self.lets((("b",), 2, ((0, B, 1), (1, B, 1))), WISH, ("can", (4, 0)))
        # No steps at all.
        self.refused("rank", 3, CAN[:2] + (CAN[2][:-1],), WISH, ("can", (2, 1, 0, 0)))
        self.refused("rank", 3, CAN[:2] + (CAN[2][:-1],), WISH, ("can", (2, 1, 0, 5)))
        self.refused("rank", 3, CAN, WISH, ("can", (2, 1, 0, 5)))
        self.refused("rank", 0, NOTHING, WISH, ("can", (0,)))
        # An even rank is no lesser one.
        self.refused("rank", 0, (("b",), 1, ((0, (), 0),)), WISH, ("can", (1,)))

    def test_the_least_rank_where_several_are_so(self):
        self.refused("rank", 0, CAN, WISH, ("can", (0, 0, 5, 5)))
        self.refused("rank", 1, CAN, WISH, ("can", (1, 0, 5, 5)))
        self.refused("rank", 2, CAN, WISH, ("can", (7, 6, 5, 5)))

    def test_where_several_of_can_are_due(self):
        self.refused("begin", 0, CAN, WISH, ("can", (None, 0, None, 0)))
        self.refused("leads", 1, CAN, WISH, ("can", (0, 1, None, 0)))

    def test_walk(self):
        for walk, number in ((((A, 2),), 0), ((((), 1),), 0), (((B, 0),), 0), (((A, 1), (A, 1)), 1), (((A, 1), ((), 2)), 1),
                             (((A, 1), (B, 0), (B, 0)), 2), ((((), 2), (A, 2)), 1), (((A + B, 1),), 0)):
            self.refused("walk", number, WAITS, WISH, ("waits", walk, (2, 3)))

    def test_end(self):
        self.refused("end", 0, WAITS, WISH, ("waits", (), (2, 3)))
        self.refused("end", 1, WAITS, WISH, ("waits", ((A, 1),), (2, 3)))
        self.refused("end", 0, WAITS, WISH, ("waits", ((A, 1), (B, 0)), (2, 3)))
        self.refused("end", 2, WAITS, WISH, ("waits", (((), 2),), (4,)))

    def test_leads_of_waits(self):
        self.refused("leads", 2, WAITS, WISH, ("waits", (((), 2),), (2,)))
        self.refused("leads", 3, WAITS, WISH, ("waits", (((), 2), (A, 3)), (3, 4)))
        # The least one where several are so.
        self.refused("leads", 0, WAITS, WISH, ("waits", (), (0, 2)))
        self.refused("leads", 1, WAITS, WISH, ("waits", ((A, 1),), (1, 2)))

    def test_passes(self):
        self.refused("passes", 1, WAITS, WISH, ("waits", (), (0, 1, 2, 3)))
        self.refused("passes", 1, WAITS, WISH, ("waits", ((A, 1),), (0, 1, 2, 3, 4)))
        self.refused("passes", 0, WAITS, ("a", 0), ("waits", (), (0, 1, 2, 3)))
        self.refused("passes", 2, WAITS, ("a", 0), ("waits", (((), 2),), (2, 3)))
        self.refused("passes", 2, CAN, WISH, ("waits", (), (0, 1, 2)))

    def test_where_several_of_waits_are_due(self):
        self.refused("walk", 0, WAITS, WISH, ("waits", ((B, 0),), (1,)))
        self.refused("end", 0, WAITS, WISH, ("waits", (), (1, 2)))
        # Leads of a greater stand goes ahead of passes of a lesser one.
        table = (("b",), 3, ((0, B, 1), (1, (), 2)))
        self.refused("leads", 1, table, WISH, ("waits", (), (0, 1)))
        self.refused("passes", 0, table, WISH, ("waits", (), (0, 1, 2)))


class ShowsTest(WishcheckerTest):
    """Whoever wrote the paper: just one of both kinds is let by, the one that is so."""

    def test_all_small_papers(self):
        chance = random.Random(251)
        told = {"can": 0, "waits": 0}
        for _ in range(60):
            table = random_table(chance, "ab", 3, 7)
            wish = (chance.choice("ab"), chance.randrange(2))
            can = all(passed_from(table, wish, stand) for stand in stands_that_come(table))
            papers = [("can", ranks) for ranks in itertools.product((None, 0, 1, 2), repeat=3)]
            sets = [stands for count in (1, 2, 3) for stands in itertools.combinations(range(3), count)]
            walks = self.walks(table)
            papers += [("waits", walk, stands) for walk in walks for stands in sets]
            words = {paper[0] for paper in papers if self.look(table, wish, paper) is None}
            self.assertEqual(words, {"can" if can else "waits"})
            told["can" if can else "waits"] += 1
        self.assertGreater(min(told.values()), 5)

    def walks(self, table):
        """A shortest walk to each stand that comes."""
        found = {0: ()}
        for stand in stands_that_come(table):
            for begin, moment, end in table[2]:
                if begin == stand:
                    found.setdefault(end, found[stand] + ((moment, end),))
        return list(found.values())

    def test_bent_by_chance(self):
        chance = random.Random(252)
        words = {}
        for _ in range(3000):
            table = random_table(chance, "ab", 4, 9)
            wish = (chance.choice("ab"), chance.randrange(2))
            if chance.random() < 0.5:
                paper = ("can", tuple(chance.choice([None, 0, 0, 1, 2, 3]) for _ in range(4)))
            else:
                paper = ("waits", self.some_walk(chance, table), tuple(sorted(chance.sample(range(4), chance.randint(1, 4)))))
            word = self.look(table, wish, paper)
            words[word] = words.get(word, 0) + 1
            if word is None:
                can = all(passed_from(table, wish, stand) for stand in stands_that_come(table))
                self.assertEqual(paper[0], "can" if can else "waits")
        self.assertEqual(set(words), {None, "begin", "leads", "rank", "walk", "end", "passes"})

    def some_walk(self, chance, table):
        walk, stand = [], 0
        for _ in range(chance.randint(0, 4)):
            steps = [(moment, end) for begin, moment, end in table[2] if begin == stand]
            if steps:
                walk.append(chance.choice(steps))
                stand = walk[-1][1]
        if walk and chance.random() < 0.3:
            walk[chance.randrange(len(walk))] = (random_moment(chance, "ab"), chance.randrange(4))
        return tuple(walk)


if __name__ == "__main__":
    unittest.main()
