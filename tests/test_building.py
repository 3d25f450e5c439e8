import copy
import itertools
import random
import unittest

from mannerports.building import net_for
from mannerports.errors import MannerError, NoTable
from mannerports.leasts import least_table
from mannerports.likechecker import lets_alike
from mannerports.likening import likeness
from mannerports.nets import right_net
from mannerports.tables import is_table
from mannerports.tabling import table_of
from mannerports.walks import has_row
from kinds import table_by_words
from oracle import every_moment, rows_up_to
from papers import is_plain
from samples import many_ports
from systems import flat_system, parting, table_system

A, B = (("a", 0),), (("b", 1),)


def stills(many):
    return tuple((k, (), k) for k in range(many))


def table_with(seen, many, steps):
    """A table of these steps and all still ones."""
    return (tuple(seen), many, tuple(sorted(stills(many) + tuple(steps))))


def random_plain(chance, things, seen, many, most_steps):
    """A plain table with all still steps, and at most so many others."""
    moments = [moment for moment in every_moment(seen[:3], things) if moment]
    if len(seen) > 3:
        moments = [tuple((port, chance.randrange(things)) for port in sorted(seen) if chance.random() < 0.6)
                   for _ in range(12)]
    keys = {(chance.randrange(many), chance.choice(moments)) for _ in range(most_steps)} if moments else set()
    return table_with(seen, many, [(begin, moment, chance.randrange(many)) for begin, moment in keys if moment])


class NetForTest(unittest.TestCase):
    def look(self, things, table):
        self.assertTrue(table_by_words(table) and is_plain(table), table)
        before = copy.deepcopy(table)
        told = net_for(things, table)
        self.assertEqual(table, before)
        self.assertIs(type(told), tuple)
        net, paper = told
        self.assertIs(right_net(net), True)
        self.assertEqual(net[:2], (things, table[0]))
        self.assertLessEqual({part[0] for part in net[2]}, {"place", "merge", "drain", "only"})
        self.assertLessEqual(len(net[2]), 120)
        own = table_of(net)
        self.assertIs(is_table(own), True)
        self.assertEqual(own[0], table[0])
        self.assertIs(lets_alike(table, own, paper), True)
        self.assertIsNone(parting(table_system(table), table_system(own)))
        self.assertEqual(least_table(own), least_table(table))
        return net

    def refused(self, word, things, table):
        self.assertTrue(table_by_words(table), table)
        with self.assertRaises(NoTable) as caught:
            net_for(things, table)
        self.assertIsInstance(caught.exception, MannerError)
        self.assertEqual(caught.exception.word, word, (things, table))


class RightTest(NetForTest):
    def test_of_no_ports_and_no_other_steps(self):
        for things in (1, 2, 3):
            for many in (1, 2, 3, 4):
                self.look(things, table_with((), many, ()))
                self.look(things, table_with("ba", many, ()))
                self.look(things, table_with(many_ports(6), many, ()))

    def test_one_step(self):
        for begin, end in itertools.product(range(4), repeat=2):
            for moment in (A, B, A + B, (("a", 1), ("b", 0))):
                self.look(2, table_with("ab", 4, [(begin, moment, end)]))

    def test_from_a_stand_to_itself(self):
        self.look(1, table_with("a", 1, [(0, A, 0)]))
        self.look(2, table_with("ab", 1, [(0, moment, 0) for moment in every_moment("ab", 2) if moment]))
        self.look(2, table_with("ab", 2, [(0, A, 0), (0, B, 1), (1, A, 1), (1, B, 0)]))

    def test_all_small_tables(self):
        for ends in itertools.product((None, 0, 1), repeat=4):
            steps = [(k // 2, (A, B)[k % 2], end) for k, end in enumerate(ends) if end is not None]
            self.look(2, table_with("ba", 2, steps))

    def test_by_chance(self):
        chance = random.Random(271)
        for number in range(150):
            things, many = 1 + number % 3, chance.randint(1, 4)
            seen = chance.sample(("a", "b", "c", "d", "e", "f"), chance.randint(0, 6))
            self.look(things, random_plain(chance, things, seen, many, chance.randint(0, 10)))

    def test_the_most_there_can_be(self):
        chance = random.Random(272)
        seen = many_ports(6)
        for number in range(12):
            moments = [tuple((port, (k + at + number) % 3) for at, port in enumerate(seen)) for k in range(3)]
            keys = [(stand, moment) for stand in range(4) for moment in moments]
            steps = [(stand, moment, chance.randrange(4)) for stand, moment in chance.sample(keys, 10)]
            self.look(3, table_with(chance.sample(seen, 6), 4, steps))
        # Ten steps from one stand to itself, and by turns, each seen at all ports.
        many = sorted({tuple((port, chance.randrange(3)) for port in seen) for _ in range(30)})[:10]
        self.assertEqual(len(self.look(3, table_with(seen, 1, [(0, moment, 0) for moment in many]))[1]), 6)
        for many_stands in (2, 3, 4):
            self.look(3, table_with(seen, many_stands, [
                (k % many_stands, moment, (k + 1) % many_stands) for k, moment in enumerate(many)]))

    def test_stands_that_do_not_come(self):
        self.look(2, table_with("ab", 4, [(1, A, 0), (2, B, 2), (3, A + B, 1)]))
        self.look(2, table_with("ab", 4, [(0, A, 3), (1, A, 0), (2, B, 2), (3, B, 0)]))

    def test_a_stand_from_which_nothing_else_goes_on(self):
        self.look(1, table_with("a", 2, [(0, A, 1)]))
        self.look(1, table_with("a", 4, [(0, A, 1), (1, A, 2), (2, A, 3)]))

    def test_a_port_that_no_step_has(self):
        net = self.look(2, table_with("abc", 2, [(0, A, 1), (1, A, 0)]))
        self.assertIs(has_row(net, (A, A)), True)
        self.assertIs(has_row(net, (B,)), False)
        self.assertIs(has_row(net, ((("c", 0),),)), False)

    def test_ports_called_like_the_nets_own_hidden_ones(self):
        steps = [(0, 0, 1), (1, 1, 0), (1, 2, 1)]
        net = self.look(2, table_with(("xx", "yy", "zz"), 2, [(begin, (((("xx", "yy", "zz")[at]), 1),), end) for begin, at, end in steps]))
        hidden = sorted({port for part in net[2] for each in part[1:3] for port in ([each] if isinstance(each, str) else each)}
                        - set(net[1]))
        # The hidden ones of one net as seen ones of the next.
        for seen in itertools.islice(itertools.combinations(hidden, 3), 0, 400, 25):
            self.look(2, table_with(seen, 2, [(begin, ((sorted(seen)[at], 1),), end) for begin, at, end in steps]))

    def test_more_things_than_are_passed(self):
        table = table_with("ab", 2, [(0, A, 1), (1, (("b", 0),), 0)])
        for things in (1, 2, 3):
            self.look(things, table)

    def test_just_so_many_things(self):
        for thing in (0, 1, 2):
            table = table_with("ab", 1, [(0, (("a", thing),), 0)])
            for things in (1, 2, 3):
                if thing < things:
                    self.look(things, table)
                else:
                    self.refused("things", things, table)

    def test_rows_of_the_net_by_the_words(self):
        # Every choice at every port is looked at: of few ports alone.
        table = table_with("a", 2, [(0, A, 1)])
        net = net_for(1, table)[0]
        self.assertIsNone(parting(flat_system(net), table_system(table)))
        rows = rows_up_to(net, 3)
        self.assertEqual(len(rows), 1 + 2 + 3 + 4)

    def test_told_again(self):
        table = table_with("ab", 2, [(0, A, 1), (1, B, 0)])
        first = net_for(2, table)
        self.assertEqual(likeness(table_of(first[0]), table_of(net_for(2, table)[0]))[0], "alike")

    def test_a_net_for_the_table_of_a_net(self):
        place = table_of((2, ("i", "o"), (("place", "i", "o", None),)))
        self.assertEqual(place[1], 3)
        net = self.look(2, place)
        self.assertEqual(least_table(table_of(net)), least_table(place))


class RefusalTest(NetForTest):
    def test_plain(self):
        self.refused("plain", 2, table_with("a", 2, [(0, A, 0), (0, A, 1)]))
        self.refused("plain", 2, (("a",), 2, ((0, (), 0), (0, (), 1), (1, (), 1))))

    def test_still(self):
        for steps in ((), ((0, (), 0),), ((1, (), 1),), ((0, (), 1), (1, (), 1)), ((0, (), 0), (1, (), 0))):
            self.refused("still", 2, (("a",), 2, steps))
        # Of a stand that doesn't come, too.
        self.refused("still", 2, (("a",), 2, ((0, (), 0), (0, A, 0))))

    def test_things(self):
        self.refused("things", 1, table_with("ab", 1, [(0, B, 0)]))
        self.refused("things", 1, table_with("ab", 1, [(0, A + B, 0)]))
        self.refused("things", 2, table_with("ab", 2, [(0, A, 0), (1, (("b", 2),), 0)]))

    def test_many_stands(self):
        self.look(1, table_with("a", 4, [(0, A, 3)]))
        self.refused("many", 1, table_with("a", 5, []))
        self.refused("many", 3, table_with("a", 5, [(0, A, 4)]))
        self.refused("many", 1, table_with((), 2000, []))

    def test_many_steps(self):
        moments = [moment for moment in every_moment("abc", 2) if moment]
        self.look(2, table_with("abc", 1, [(0, moment, 0) for moment in moments[:10]]))
        self.refused("many", 2, table_with("abc", 1, [(0, moment, 0) for moment in moments[:11]]))
        steps = [(k % 4, moment, (k + 1) % 4) for k, moment in enumerate(moments)]
        self.look(2, table_with("abc", 4, steps[:10]))
        self.refused("many", 2, table_with("abc", 4, steps[:11]))
        # Those of stands that don't come count, too.
        self.refused("many", 2, table_with("abc", 4, [(3, moment, 3) for moment in moments[:11]]))

    def test_where_several_are_due(self):
        forked = [(0, A, 0), (0, A, 1), (0, (("a", 2),), 0)]
        many = [(k, A, 0) for k in range(1, 12)]
        self.refused("plain", 1, (("a",), 2, tuple(forked)))
        self.refused("plain", 1, (("a",), 12, tuple(sorted(forked + many))))
        self.refused("plain", 1, table_with("a", 12, forked + many))
        self.refused("still", 1, (("a",), 12, tuple(sorted(forked[1:] + many))))
        self.refused("things", 1, table_with("a", 12, forked[1:] + many))
        self.refused("things", 2, table_with("a", 5, forked[1:]))
        self.refused("many", 3, table_with("a", 12, forked[1:] + many))

    def test_any_refusal_by_chance(self):
        chance = random.Random(273)
        words = set()
        for _ in range(400):
            things, many = chance.randint(1, 3), chance.randint(1, 6)
            steps = set(stills(many)) | {
                (chance.randrange(many), ((chance.choice("ab"), chance.randrange(3)),), chance.randrange(many))
                for _ in range(chance.choice([0, 3, 6, 14]))}
            if chance.random() < 0.2:
                steps.discard(chance.choice(stills(many)))
            table = (("a", "b"), many, tuple(sorted(steps)))
            word = self.word_by_words(things, table)
            words.add(word)
            if word:
                self.refused(word, things, table)
            else:
                self.look(things, table)
        self.assertEqual(words, {None, "plain", "still", "things", "many"})

    def word_by_words(self, things, table):
        others = [step for step in table[2] if step[1] != ()]
        if not is_plain(table):
            return "plain"
        if not set(stills(table[1])) <= set(table[2]):
            return "still"
        if any(thing >= things for begin, moment, end in others for port, thing in moment):
            return "things"
        return "many" if table[1] > 4 or len(others) > 10 else None


if __name__ == "__main__":
    unittest.main()
