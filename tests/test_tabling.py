import itertools
import random
import unittest

from mannerports.errors import MannerError, NoJoin, TooMany
from mannerports.flatting import flat_of
from mannerports.joining import hidden, joined
from mannerports.machines import moves_from
from mannerports.netmachines import machine_of
from mannerports.nets import right_net
from mannerports.partmachines import part_machine
from mannerports.putting import beside, called, hidden_net
from mannerports.tables import table_breaks, table_has
from mannerports.tabling import table_by, table_hidden, table_of, tables_joined
from mannerports.walks import breaks, has_row, stands_met
from kinds import chain, machine_by_words, random_machine, random_table, round_table, table_by_words, wide_machine
from oracle import every_moment, every_row, flat_steps, part_of, stands_by_words
from samples import fan_of_moments, fan_of_stands, fed_ring, many_ports, random_flat, random_net_within, ring
from systems import both, flat_system, hiding, machine_moves, machine_system, net_system, parting, table_system

QUEUE = (2, ("b", "a"), (("place", "a", "h", None), ("place", "h", "b", None)))


class TablingTest(unittest.TestCase):
    def refused(self, word, ask, *handed):
        with self.assertRaises(TooMany) as caught:
            ask(*handed)
        self.assertIsInstance(caught.exception, MannerError)
        self.assertEqual(caught.exception.word, word)

    def no_join(self, word, ask, *handed):
        with self.assertRaises(NoJoin) as caught:
            ask(*handed)
        self.assertEqual(caught.exception.word, word)

    def sees(self, table, ports):
        self.assertTrue(table_by_words(table), table)
        self.assertEqual(sorted(table[0]), sorted(ports))

    def same(self, table, system):
        self.assertIsNone(parting(table_system(table), system), table)


def table_of_by_words(flat):
    """The table of a flat net, by the words of the document."""
    stands = stands_by_words(flat)
    steps = set()
    for number, stand in enumerate(stands):
        for moment, behind in flat_steps(flat, stand):
            steps.add((number, part_of(moment, flat[1]), stands.index(behind)))
    return (flat[1], len(stands), tuple(sorted(steps)))


def table_by_by_words(machine):
    """The table of a machine, by the words of the document."""
    stands = [machine[3]]
    for stand in stands:
        for moment, behind in machine_moves(machine, stand):
            if behind not in stands:
                stands.append(behind)
    steps = set()
    for number, stand in enumerate(stands):
        for moment, behind in machine_moves(machine, stand):
            steps.add((number, moment, stands.index(behind)))
    return (machine[1], len(stands), tuple(sorted(steps)))


class TableOfTest(TablingTest):
    def test_a_place(self):
        self.assertEqual(table_of((1, ("b", "a"), (("place", "a", "b", 0),))), (("b", "a"), 2, (
            (0, (), 0), (0, (("b", 0),), 1), (1, (), 1), (1, (("a", 0),), 0))))

    def test_no_parts(self):
        self.assertEqual(table_of((1, (), ())), ((), 1, ((0, (), 0),)))
        self.assertEqual(table_of((2, ("z", "a"), ())), (("z", "a"), 1, tuple(
            (0, moment, 0) for moment in every_moment("az", 2))))

    def test_hidden_ports(self):
        table = table_of(QUEUE)
        self.assertEqual(table[:2], (("b", "a"), 9))
        self.assertEqual([step for step in table[2] if step[0] == 1], [(1, (), 1), (1, (), 3)])
        self.assertEqual(table_of((1, (), (("place", "a", "b", None),))), ((), 2, (
            (0, (), 0), (0, (), 1), (1, (), 0), (1, (), 1))))
        # Moments that differ by hidden ports alone are one step.
        self.assertEqual(table_of((2, ("a",), (("loose", "a", "h"), ("drain", "k", "l")))), (("a",), 1, (
            (0, (), 0), (0, (("a", 0),), 0), (0, (("a", 1),), 0))))

    def test_seen_ports_as_they_stand(self):
        for seen in itertools.permutations("abc"):
            self.assertEqual(table_of((1, seen, (("copy", "a", ("b", "c")),)))[0], seen)

    def test_numbered_as_they_come(self):
        for flat in (QUEUE, chain(4, 3, 1), (1, ("raa",), ring("r", 20))):
            self.assertEqual(table_of(flat)[1], len(stands_met(flat)))
        self.assertEqual(table_of((1, ("raa",), ring("r", 20)))[2][:4], ((0, (), 0), (0, (), 1), (1, (), 1), (1, (), 2)))

    def test_by_the_words(self):
        chance = random.Random(121)
        for _ in range(150):
            flat = random_flat(chance, "abcd", 4, 4)
            table = table_of(flat)
            self.assertTrue(table_by_words(table), table)
            self.assertEqual(table, table_of_by_words(flat), flat)

    def test_the_same_rows_as_the_net(self):
        chance = random.Random(122)
        for deep in (1, 2, 3):
            for _ in range(15):
                net = random_net_within(chance, deep, 1)
                table = table_of(flat_of(net))
                self.same(table, net_system(net))
                for row in every_row(net, 2):
                    self.assertIs(table_has(table, row), has_row(flat_of(net), row))
                    self.assertEqual(table_breaks(table, row), breaks(flat_of(net), row))

    def test_just_400_stands_and_more(self):
        flat = (1, ("aaa",), ring("a", 20) + ring("b", 20))
        table = table_of(flat)
        self.assertEqual((table[1], len(table[2])), (400, 1600))
        self.assertTrue(table_by_words(table))
        start = (("place", "s", "p", 0), ("copy", "p", ("ain", "bin")), ("only", "x", "s", ()))
        self.assertEqual(table_of((1, (), start + fed_ring("a", 19) + fed_ring("b", 21)))[1], 400)
        self.refused("stands", table_of, (1, (), start + fed_ring("a", 20) + fed_ring("b", 20)))
        self.refused("stands", table_of, (1, ("aaa",), ring("a", 20) + ring("b", 21)))
        self.refused("stands", table_of, (1, (), tuple(("place", "a" + p, "b" + p, None) for p in many_ports(9))))

    def test_many_moments(self):
        self.refused("moments", table_of, (3, many_ports(6), ()))
        table = table_of((3, many_ports(5), ()))
        self.assertEqual(len(table[2]), 4 ** 5)
        self.refused("moments", table_of, (1, (), fan_of_moments("a")))
        self.refused("moments", table_of, (1, (), tuple(("place", "a" + p, "b" + p, None) for p in many_ports(12))))

    def test_which_refusal_goes_by_what_is_met_first(self):
        start = (("place", "s", "t", 0), ("merge", ("ai", "bi"), "t"), ("only", "s", "sx", ()))
        for parts, word in ((start + fan_of_moments("a") + fan_of_stands("b"), "moments"),
                            (start + fan_of_stands("a") + fan_of_moments("b"), "stands")):
            right_net((1, (), parts))
            self.refused(word, table_of, (1, (), parts))


class TableByTest(TablingTest):
    def test_a_machine(self):
        machine = (1, ("a", "b"), 1, (0, (None,)), (
            (0, ("b",), (((("next", 0), ("port", "b")), (0,)),), 5), (5, ("a",), (((("box", 0), ("port", "a")), (0,)),), 0),
            (0, (), (), 9), (7, (), (), 0)))
        self.assertEqual(table_by(machine), (("a", "b"), 3, (
            (0, (), 0), (0, (), 2), (0, (("b", 0),), 1), (1, (), 1), (1, (("a", 0),), 0), (2, (), 2))))

    def test_by_its_moves_in_their_order(self):
        # By the steps' order, not the moments'.
        steps = ((0, ("b",), (((("port", "b"),), (0,)),), 1), (0, ("a",), (((("port", "a"),), (0,)),), 2))
        first, second = (0, (("a", 0),), 2), (0, (("b", 0),), 1)
        stays = ((1, (), 1), (2, (), 2))
        self.assertEqual(table_by((1, ("a", "b"), 0, (0, ()), steps)), (
            ("a", "b"), 3, ((0, (), 0), first, second) + stays))
        self.assertEqual(table_by((1, ("a", "b"), 0, (0, ()), steps[::-1])), (
            ("a", "b"), 3, ((0, (), 0), first[:2] + (1,), second[:2] + (2,)) + stays))

    def test_without_steps(self):
        self.assertEqual(table_by((3, (), 0, (17, ()), ())), ((), 1, ((0, (), 0),)))
        self.assertEqual(table_by((3, ("a",), 1, (17, (2,)), ())), (("a",), 1, ((0, (), 0),)))

    def test_by_the_words(self):
        chance = random.Random(131)
        for _ in range(150):
            machine = random_machine(chance, chance.randint(1, 3), "abc", chance.randint(0, 2), 3, 8)
            table = table_by(machine)
            self.assertTrue(table_by_words(table), table)
            self.assertEqual(table, table_by_by_words(machine))
            self.same(table, machine_system(machine))

    def test_ports(self):
        for count in (6, 7, 60):
            machine = (1, many_ports(count), 0, (0, ()), ())
            if count == 6:
                self.assertEqual(table_by(machine), (many_ports(6), 1, ((0, (), 0),)))
            else:
                self.refused("ports", table_by, machine)

    def test_just_400_stands_and_more(self):
        def line(count):
            """So many places one behind the other, and some steps at places that don't come."""
            steps = [(k, ("a",), (((("port", "a"),), (0,)),), k + 1) for k in range(count - 1)]
            steps += [(k, (), (), k + 1) for k in range(1000, 1500)]
            return (1, ("a",), 0, (0, ()), tuple(steps))
        self.assertEqual(table_by(line(400))[1], 400)
        self.refused("stands", table_by, line(401))
        self.refused("stands", table_by, line(999))

    def test_just_400_stands_by_boxes_and_places(self):
        def laying(places):
            """Three boxes that are laid with any of three things, at each of some places."""
            steps = [(k, (), (), k + 1) for k in range(places - 1)]
            steps += [(0, (), (((("next", box),), (0, 1, 2)),), 0) for box in range(3)]
            return (3, (), 3, (0, (None,) * 3), tuple(steps))
        self.assertEqual(table_by(laying(6))[1], 6 * 64)
        self.refused("stands", table_by, laying(7))
        # More stands by one stand's moves.
        self.refused("stands", table_by, (2, (), 9, (0, (None,) * 9), (
            (0, (), tuple(((("next", box),), (0, 1)) for box in range(9)), 0),)))

    def test_which_refusal_goes(self):
        wide = wide_machine(9)
        self.refused("ports", table_by, wide)
        self.refused("ports", table_by, joined(wide, wide))
        self.refused("stands", table_by, hidden(wide, wide[1]))

    def test_of_a_nets_machine(self):
        chance = random.Random(132)
        for _ in range(60):
            flat = random_flat(chance, "abcd", 4, 3)
            table = table_by(machine_of(flat))
            self.sees(table, flat[1])
            self.same(table, flat_system(flat))
            self.same(table, table_system(table_of(flat)))

    def test_of_the_machine_of_a_net_of_just_400_stands(self):
        flat = (1, ("aaa", "baa"), ring("a", 20) + ring("b", 20))
        self.assertIsNone(parting(table_system(table_by(machine_of(flat))), table_system(table_of(flat))))

    def test_of_parts(self):
        self.assertEqual(table_by(part_machine(1, ("place", "a", "b", None))), table_of(
            (1, ("a", "b"), (("place", "a", "b", None),))))


class TablesJoinedTest(TablingTest):
    def look(self, one, other):
        table = tables_joined(one, other)
        self.sees(table, set(one[0]) | set(other[0]))
        self.same(table, both(table_system(one), one[0], table_system(other), other[0]))
        return table

    def test_common_ports_and_none(self):
        chance = random.Random(141)
        for ports, other_ports in (("ab", "bc"), ("abc", "abc"), ("ab", "cd"), ("abcd", "b"), ("", "ab"), ("", "")):
            for _ in range(30):
                self.look(random_table(chance, ports, 3, 12), random_table(chance, other_ports, 3, 12))

    def test_two_places(self):
        one, other = [table_of((2, seen, (("place",) + seen + (None,),))) for seen in (("a", "b"), ("b", "c"))]
        table = self.look(one, other)
        self.same(table, flat_system((2, ("a", "b", "c"), (("place", "a", "b", None), ("place", "b", "c", None)))))

    def test_a_table_that_can_not_stay(self):
        # The one has no still moment: so whatever is had is had with its part.
        one, other = (("a",), 1, ((0, (("a", 0),), 0),)), (("b",), 1, ((0, (), 0), (0, (("b", 2),), 0)))
        table = self.look(one, other)
        self.assertIs(table_has(table, ((("a", 0),), (("a", 0), ("b", 2)))), True)
        self.assertIs(table_has(table, ((),)), False)
        self.assertIs(table_has(table, ((("b", 2),),)), False)
        nothing = ((), 1, ())
        self.assertIs(table_has(self.look(one, nothing), ()), True)
        self.assertIs(table_has(self.look(nothing, other), ((),)), False)

    def test_with_itself_and_either_way_about(self):
        chance = random.Random(142)
        for _ in range(30):
            one, other = random_table(chance, "ab", 4, 12), random_table(chance, "bc", 4, 12)
            self.same(self.look(one, one), table_system(one))
            self.same(self.look(one, other), table_system(self.look(other, one)))

    def test_three_in_every_order(self):
        chance = random.Random(143)
        for _ in range(15):
            tables = [random_table(chance, ports, 3, 12) for ports in ("ab", "bc", "ac")]
            first = tables_joined(tables_joined(tables[0], tables[1]), tables[2])
            for one, other, third in itertools.permutations(tables):
                self.same(tables_joined(one, tables_joined(other, third)), table_system(first))

    def test_six_ports_and_seven(self):
        six = (many_ports(6), 1, ())
        self.assertEqual(sorted(tables_joined(six, (many_ports(6)[::-1], 3, ()))[0]), sorted(many_ports(6)))
        self.look((many_ports(3), 2, ()), (many_ports(6)[3:], 2, ()))
        self.refused("ports", tables_joined, six, (("z",), 1, ()))
        self.refused("ports", tables_joined, (("z",), 1, ()), six)
        self.refused("ports", tables_joined, (many_ports(4), 1, ()), (("w", "x", "y", "z"), 1, ()))

    def test_just_400_pairs_and_more(self):
        table = tables_joined(round_table("a", 20), round_table("b", 20))
        self.assertLessEqual(table[1], 2000)
        self.same(table, both(table_system(round_table("a", 20)), "a", table_system(round_table("b", 20)), "b"))
        self.refused("stands", tables_joined, round_table("a", 20), round_table("b", 21))
        self.refused("stands", tables_joined, round_table("a", 401), round_table("b", 1))
        self.sees(tables_joined(round_table("a", 400), round_table("b", 1)), "ab")

    def test_pairs_that_do_not_come(self):
        # Both go round together: as many pairs come as each has stands.
        for count, right in ((400, True), (401, False)):
            one = (("a",), 2000, tuple((k, (("a", 0),), (k + 1) % count) for k in range(count)))
            if right:
                self.assertIs(table_has(tables_joined(one, one), ((("a", 0),),) * 60), True)
            else:
                self.refused("stands", tables_joined, one, one)
        self.same(tables_joined(round_table("a", 5, 2000), round_table("b", 5, 1999)), both(
            table_system(round_table("a", 5)), "a", table_system(round_table("b", 5)), "b"))

    def test_which_refusal_goes(self):
        one = (many_ports(6), 500, round_table(many_ports(6)[0], 500)[2])
        self.assertTrue(table_by_words(one))
        self.refused("ports", tables_joined, one, round_table("z", 500))
        self.refused("stands", tables_joined, one, round_table(many_ports(6)[1], 500))


class TableHiddenTest(TablingTest):
    def look(self, table, ports):
        left = table_hidden(table, ports)
        self.sees(left, set(table[0]) - set(ports))
        self.same(left, hiding(table_system(table), ports))
        return left

    def test_none_all_some_twice_in_any_order(self):
        chance = random.Random(151)
        for _ in range(30):
            table = random_table(chance, "abcd", 4, 16)
            self.look(table, ())
            for ports in (("a",), ("d", "a"), ("b", "c"), ("a", "a"), ("c", "b", "c"), ("d", "c", "b", "a")):
                self.look(table, ports)
            for ports in itertools.permutations("abd"):
                self.same(table_hidden(table, ports), table_system(table_hidden(table, ("a", "b", "d"))))

    def test_a_queue(self):
        flat = (2, ("a", "h", "b"), QUEUE[2])
        self.same(self.look(table_of(flat), ("h",)), flat_system(QUEUE))

    def test_others_than_its_ports(self):
        for ports in (("z",), ("a", "z"), ("z", "a"), ("a", "h"), ("A",)):
            self.no_join("ports", table_hidden, table_of(QUEUE), ports)
        self.no_join("ports", table_hidden, ((), 1, ()), ("a",))

    def test_just_400_stands_and_more(self):
        for ports in ((), ("a",)):
            self.look(round_table("a", 400), ports)
            # Stands that don't come are not counted.
            self.look(round_table("a", 400, 2000), ports)
            self.refused("stands", table_hidden, round_table("a", 401), ports)
            self.refused("stands", table_hidden, round_table("a", 2000), ports)

    def test_which_refusal_goes(self):
        self.no_join("ports", table_hidden, round_table("a", 401), ("b",))
        self.no_join("ports", table_hidden, round_table("a", 401), ("a", "b"))

    def test_hidden_ahead_and_behind(self):
        chance = random.Random(152)
        for _ in range(30):
            one, other = random_table(chance, "abx", 3, 12), random_table(chance, "bc", 3, 12)
            behind = table_hidden(tables_joined(one, other), ("x", "a"))
            ahead = tables_joined(table_hidden(one, ("a", "x")), other)
            self.assertEqual(sorted(ahead[0]), sorted(behind[0]))
            self.same(ahead, table_system(behind))


class WhateverWasMadeFirstTest(TablingTest):
    def test_tables_of_nets_beside_one_another(self):
        chance = random.Random(161)
        for number in range(40):
            one, other = [random_flat(chance, "abc", 3, 2, 1 + number % 2) for _ in range(2)]
            together = tables_joined(table_of(one), table_of(other))
            for net in (beside(one, other), beside(other, one)):
                table = table_of(flat_of(net))
                self.sees(table, together[0])
                self.same(table, table_system(together))
                machine = joined(machine_of(one), machine_of(other))
                self.same(table_by(machine), table_system(together))

    def test_tables_of_three_nets_in_both_bundles(self):
        chance = random.Random(162)
        for _ in range(15):
            one, other, third = [random_flat(chance, "abc", 2, 2, 1) for _ in range(3)]
            table = table_of(flat_of(beside(beside(one, other), third)))
            self.same(table, table_system(table_of(flat_of(beside(one, beside(other, third))))))
            self.same(table, table_system(tables_joined(
                table_of(one), tables_joined(table_of(other), table_of(third)))))

    def test_with_ports_hidden(self):
        chance = random.Random(163)
        for _ in range(40):
            flat = random_flat(chance, "abcd", 3, 3)
            for many in range(len(flat[1]) + 1):
                ports = tuple(chance.sample(flat[1], many))
                table = table_of(flat_of(hidden_net(flat, ports)))
                self.same(table, table_system(table_hidden(table_of(flat), ports)))
                self.same(table, table_system(table_by(hidden(machine_of(flat), ports))))

    def test_called_otherwise(self):
        queue = called((2, ("a", "b"), QUEUE[2]), ("x", "y"))
        self.assertEqual(table_of(flat_of(queue))[0], ("x", "y"))
        self.assertEqual(table_of(flat_of(queue))[1], 9)
        self.same(table_by(machine_of(queue)), table_system(table_of(flat_of(queue))))


class HandedInTest(unittest.TestCase):
    def test_the_same_is_told_again(self):
        machine = machine_of(QUEUE)
        self.assertTrue(machine_by_words(machine))
        one, other = table_of(QUEUE), table_by(machine)
        for ask in (lambda: table_of(QUEUE), lambda: table_by(machine), lambda: tables_joined(one, other),
                    lambda: table_hidden(one, ("a",)), lambda: moves_from(machine, machine[3])):
            self.assertEqual(ask(), ask())

    def test_what_was_told_is_taken_again(self):
        table = tables_joined(table_of((3, many_ports(3), ())), table_of((3, many_ports(6)[3:], ())))
        self.assertEqual(len(table[2]), 4 ** 6)
        self.assertEqual(len(table_hidden(table, many_ports(2))[2]), 4 ** 4)


if __name__ == "__main__":
    unittest.main()
