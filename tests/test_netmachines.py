import itertools
import random
import unittest

from mannerports.errors import TooMany
from mannerports.flatting import flat_of
from mannerports.joining import hidden, joined
from mannerports.machines import machine_has, moves_from
from mannerports.netmachines import machine_of
from mannerports.nets import right_net
from mannerports.partmachines import part_machine
from mannerports.putting import beside, called, hidden_net
from mannerports.walks import has_row, stands_met
from kinds import chain, machine_by_words
from oracle import every_moment, every_row, ports_of
from samples import many_ports, random_flat, random_net_within, ring
from systems import System, bent_rows, both, flat_system, hiding, machine_system, net_system, parting, some_row

PLACE = (2, ("i", "o"), (("place", "i", "o", None),))


def is_within_bounds(net):
    try:
        return bool(stands_met(flat_of(net)))
    except TooMany:
        return False


def ring_system(name, count):
    """A ring of which the first port is seen: one thing goes round so many places, or stays."""
    def steps(at):
        return [((), at), (((name + "aa", 0),), 0) if at == count - 1 else ((), at + 1)]
    return System(0, steps)


class NetMachineTest(unittest.TestCase):
    def told(self, net):
        right_net(net)
        machine = machine_of(net)
        self.assertTrue(machine_by_words(machine), (net, machine))
        self.assertEqual(machine[0], net[0])
        self.assertEqual(machine[1], tuple(sorted(net[1])))
        return machine

    def look(self, net):
        """Look at all rows of the machine against the net's."""
        machine = self.told(net)
        self.assertIsNone(parting(machine_system(machine), net_system(net)), net)
        return machine

    def look_at_rows(self, chance, net, length, count=3):
        """Look at some rows of a net with many parts, by its walks."""
        machine, flat = self.told(net), flat_of(net)
        for _ in range(count):
            row = some_row(chance, machine_system(machine), length)
            self.assertIs(has_row(flat, row), True, (net, row))
            self.assertIs(machine_has(machine, row), True)
            for bent in bent_rows(chance, row, sorted(net[1]), net[0]):
                self.assertIs(machine_has(machine, bent), has_row(flat, bent), (net, bent))
        return machine

    def test_no_parts(self):
        for things in (1, 2, 3):
            for seen in ((), ("a",), ("b", "a"), ("c", "a", "b")):
                machine = self.look((things, seen, ()))
                moments = [moment for moment, stand in moves_from(machine, machine[3])]
                self.assertEqual(sorted(moments), every_moment(seen, things))

    def test_six_free_ports(self):
        # Nobody asks this of a net with so many moments, but nothing refuses it.
        machine = self.told((3, many_ports(6)[::-1], ()))
        self.assertEqual(len(moves_from(machine, machine[3])), 4 ** 6)

    def test_seen_ports_that_no_part_has(self):
        self.look((2, ("z", "a", "x"), (("place", "a", "b", 1),)))
        self.look((1, ("z",), (("place", "a", "b", 0), ("place", "b", "c", None))))
        self.look((2, ("y", "z"), (("both", "a", "b"),)))

    def test_nothing_seen(self):
        for flat in ((1, (), ()), (2, (), (("place", "a", "b", None),)), (1, (), ring("r", 4))):
            machine = self.look(flat)
            self.assertEqual(machine[1], ())

    def test_each_part_alone(self):
        for part in (
            ("both", "b", "a"), ("loose", "a", "b"), ("drain", "a", "b"), ("either", "a", "b"), ("only", "a", "b", ()),
            ("only", "a", "b", (1,)), ("only", "a", "b", (0, 1)), ("place", "a", "b", None), ("place", "a", "b", 0),
            ("last", "a", "b", None), ("last", "a", "b", 1), ("copy", "a", ("b", "c")), ("merge", ("c", "a"), "b"),
        ):
            for seen in (ports_of(part), ports_of(part)[:1], ports_of(part)[1:], ()):
                self.look((2, seen, (part,)))

    def test_knots_of_twelve(self):
        ends = many_ports(12)
        self.look_at_rows(random.Random(1), (2, ("a",) + ends[:5], (("copy", "a", ends),)), 10)
        self.look_at_rows(random.Random(2), (1, ("z",) + ends[:5], (("merge", ends, "z"),)), 10)

    def test_told_things_that_do_not_meet(self):
        machine = self.look((2, ("a", "c"), (("only", "a", "b", (0,)), ("only", "b", "c", (1,)))))
        self.assertEqual(moves_from(machine, machine[3]), [((), machine[3])])
        machine = self.look((3, ("a", "c"), (("only", "a", "b", (0, 2)), ("only", "b", "c", (1, 2)))))
        self.assertEqual(len(moves_from(machine, machine[3])), 2)

    def test_what_is_held_and_never_let_go(self):
        self.look((2, ("a", "c"), (("place", "a", "b", 1), ("only", "b", "c", (0,)))))

    def test_places_ahead_of_and_behind_one_another(self):
        self.look((2, ("a", "c"), (("place", "a", "b", None), ("place", "b", "c", None))))
        self.look((2, ("a",), (("place", "a", "b", None), ("place", "b", "a", 1))))
        # The same port at both ends of two parts; a place that holds and one that doesn't.
        self.look((2, ("a", "b"), (("place", "a", "b", None), ("last", "a", "b", 0))))

    def test_lasts(self):
        self.look((2, ("a", "c"), (("last", "a", "b", None), ("last", "b", "c", 1))))
        self.look((2, ("a", "c"), (("last", "a", "b", 0), ("drain", "b", "c"))))
        self.look((3, ("b", "a"), (("last", "a", "b", 0),)))

    def test_flat_nets_by_chance(self):
        chance = random.Random(101)
        for _ in range(150):
            flat = random_flat(chance, "abcd", 4, 3)
            if is_within_bounds(flat):
                self.look(flat)

    def test_flat_nets_of_three_things_by_chance(self):
        chance = random.Random(102)
        for _ in range(30):
            flat = random_flat(chance, "abc", 3, 3, 3)
            if is_within_bounds(flat):
                self.look(flat)

    def test_nets_within_by_chance(self):
        chance = random.Random(103)
        for deep in (2, 3, 4):
            for _ in range(25):
                net = random_net_within(chance, deep, chance.randint(1, 2))
                if is_within_bounds(net):
                    self.look(net)

    def test_rows_by_the_package_itself(self):
        chance = random.Random(104)
        for _ in range(20):
            net = random_net_within(chance, 2, 1)
            if is_within_bounds(net):
                machine, flat = self.told(net), flat_of(net)
                for row in every_row(net, 2):
                    self.assertIs(machine_has(machine, row), has_row(flat, row), (net, row))

    def test_chains_of_many_parts(self):
        chance = random.Random(105)
        for places, channels, things in ((8, 6, 1), (5, 9, 2), (4, 20, 3), (1, 40, 3), (0, 60, 2)):
            flat = chain(places, channels, things)
            self.assertTrue(is_within_bounds(flat))
            self.look_at_rows(chance, flat, 40)

    def test_chains_beyond_the_bounds(self):
        # More stands than can be asked of; still nothing refuses it.
        flat = chain(12, 4)
        self.assertFalse(is_within_bounds(flat))
        machine = self.told(flat)
        into, out = ((flat[1][0], 0),), ((flat[1][1], 0),)
        # The ways through the places take time; the channels let go of what they bring, or show it at the end.
        self.assertIs(machine_has(machine, (into,) + ((),) * 11 + (out,)), True)
        self.assertIs(machine_has(machine, (into,) + ((),) * 10 + (out,)), False)
        self.assertIs(machine_has(machine, (into, into)), False)
        things, seen, parts = chain(8, 0, 3)
        # What a place holds at first goes out once; of another one it never does.
        held = (("place", "x", "y", 1), ("only", "w", "x", ()), ("place", "w", "v", 1), ("only", "v", "z", (0, 2)))
        held += (("place", "p", "q", 2), ("only", "q", "r", (0, 2)))
        machine = self.told((things, seen + ("y", "z", "r"), parts + held))
        self.assertIs(machine_has(machine, ((("r", 2),),)), True)
        self.assertIs(machine_has(machine, ((("r", 0),),)), False)
        into, out = ((seen[0], 2),), (("y", 1),)
        self.assertIs(machine_has(machine, (into, into)), False)
        self.assertIs(machine_has(machine, (into, out)), True)
        self.assertIs(machine_has(machine, (into + out,)), True)
        self.assertIs(machine_has(machine, (out, (), out)), False)
        self.assertIs(machine_has(machine, ((("z", 1),),)), False)
        self.assertIs(machine_has(machine, ((("z", 0),),)), False)

    def test_rings_of_many_places(self):
        flat = (1, ("aaa", "baa"), ring("a", 20) + ring("b", 20))
        self.assertEqual(len(stands_met(flat)), 400)
        machine = self.told(flat)
        self.assertIsNone(parting(machine_system(machine), both(
            ring_system("a", 20), ("aaa",), ring_system("b", 20), ("baa",))))

    def test_four_within_one_another(self):
        queue = (2, ("i", "o"), (("net", PLACE, ("i", "h")), ("net", PLACE, ("h", "o"))))
        four = (2, ("a", "z"), (("net", queue, ("a", "o")), ("net", queue, ("o", "z"))))
        self.look_at_rows(random.Random(107), beside(four, (2, ("x", "z"), (("only", "x", "z", (1,)),))), 30)
        self.look_at_rows(random.Random(108), hidden_net(four, ("a",)), 30)
        self.look_at_rows(random.Random(109), called(four, ("z", "a")), 30)

    def test_whatever_was_made_first(self):
        # The machine of nets beside one another, and their machines joined; likewise with ports hidden.
        chance = random.Random(108)
        for number in range(30):
            one, other = [random_flat(chance, "abc", 3, 2, 1 + number % 2) for _ in range(2)]
            if is_within_bounds(beside(one, other)):
                first = self.told(beside(one, other))
                behind = joined(machine_of(one), machine_of(other))
                self.assertEqual(first[1], behind[1])
                self.assertIsNone(parting(machine_system(first), machine_system(behind)))
                ports = first[1][:1]
                self.assertIsNone(parting(
                    machine_system(machine_of(hidden_net(beside(one, other), ports))),
                    machine_system(hidden(behind, ports))))

    def test_parts_machines_joined(self):
        chance = random.Random(109)
        for _ in range(40):
            things, seen, parts = random_flat(chance, "abcd", 4, 4)
            if parts and is_within_bounds((things, seen, parts)):
                machine = part_machine(things, parts[0])
                for part in parts[1:]:
                    machine = joined(machine, part_machine(things, part))
                shown = tuple(port for port in seen if port in machine[1])
                machine = hidden(machine, tuple(port for port in machine[1] if port not in seen))
                self.assertIsNone(parting(machine_system(machine), machine_system(machine_of((things, shown, parts)))))

    def test_in_whatever_order_the_parts_stand(self):
        flat = (1, ("a", "d"), (("place", "a", "b", None), ("loose", "b", "c"), ("last", "c", "d", None)))
        machine = machine_system(self.look(flat))
        for parts in itertools.permutations(flat[2]):
            self.assertIsNone(parting(machine_system(machine_of((1, ("d", "a"), parts))), machine))

    def test_the_same_is_told_again(self):
        net = (2, ("x", "y"), (("net", PLACE, ("x", "h")), ("net", PLACE, ("h", "y"))))
        self.assertEqual(machine_of(net), machine_of(net))
        self.assertIsNone(parting(machine_system(machine_of(net)), hiding(flat_system(
            (2, ("x", "h", "y"), (("place", "x", "h", None), ("place", "h", "y", None)))), ("h",))))


if __name__ == "__main__":
    unittest.main()
