import itertools
import random
import unittest

from mannerports.machines import is_machine, machine_has, moves_from
from mannerports.manners import held_behind, lets
from mannerports.partmachines import part_machine
from mannerports.walks import has_row
from oracle import every_moment, ports_of
from samples import many_ports
from systems import bent_rows, machine_system, part_system, parting, some_row


def every_part(things):
    """Parts of every kind with everything that they can hold or be told, their ports in both orders."""
    held = [None] + list(range(things))
    told = [some for many in range(things + 1) for some in itertools.combinations(range(things), many)]
    for a, b in (("a", "b"), ("z", "b")):
        for word in ("both", "loose", "drain", "either"):
            yield (word, a, b)
        for each in held:
            yield ("place", a, b, each)
            yield ("last", a, b, each)
        for each in told:
            yield ("only", a, b, each)
        for ends in ((b,), (b, "c"), ("x", b), ("c", "x", b)):
            yield ("copy", a, ends)
            yield ("merge", ends, a)


class PartMachineTest(unittest.TestCase):
    def look(self, things, part):
        machine = part_machine(things, part)
        self.assertTrue(is_machine(machine), machine)
        self.assertEqual(machine[0], things)
        self.assertEqual(machine[1], tuple(sorted(ports_of(part))))
        self.assertIsNone(parting(machine_system(machine), part_system(things, part)), (things, part))
        return machine

    def test_every_kind(self):
        for things in (1, 2, 3):
            for part in every_part(things):
                self.look(things, part)

    def test_all_rows_along_all_moments(self):
        for things in (1, 2):
            for part in every_part(things):
                if len(ports_of(part)) == 2:
                    machine = part_machine(things, part)
                    system = part_system(things, part)
                    for row in itertools.product(every_moment(ports_of(part), things), repeat=2):
                        self.assertIs(machine_has(machine, row), system.has(row), (things, part, row))

    def test_rows_by_what_parts_let(self):
        # Once more by the package's own words for a part: lets and held_behind.
        for things in (1, 2, 3):
            for part in every_part(things):
                machine = part_machine(things, part)
                held = part[3] if part[0] in ("place", "last") else None
                stand = machine[3]
                for moment in every_moment(ports_of(part), things):
                    self.assertIs(machine_has(machine, (moment,)), lets(part, held, moment))
                    if lets(part, held, moment):
                        behind = held_behind(part, held, moment)
                        stands = [each for seen, each in moves_from(machine, stand) if seen == moment]
                        for after in every_moment(ports_of(part), things):
                            self.assertIs(machine_has(machine, (moment, after)), lets(part, behind, after))
                        self.assertTrue(stands)

    def test_copies_and_merges_of_twelve(self):
        ends = many_ports(12)
        for things in (1, 2, 3):
            self.assertEqual(len(moves_from(*with_begin(self.look(things, ("copy", "a", ends))))), 1 + things)
            self.assertEqual(len(moves_from(*with_begin(self.look(things, ("merge", ends, "z"))))), 1 + 12 * things)
            self.look(things, ("copy", "z", ends[::-1]))
            self.look(things, ("merge", ends[::-1], "a"))

    def test_only_of_no_things(self):
        self.assertEqual(moves_from(*with_begin(self.look(3, ("only", "a", "b", ())))), [((), (0, ()))])

    def test_long_rows(self):
        place, last = part_machine(3, ("place", "a", "b", None)), part_machine(3, ("last", "b", "a", None))
        row = tuple(((port, thing),) for thing in (0, 1, 2) for port in "ab") * 10
        self.assertIs(machine_has(place, row), True)
        self.assertIs(machine_has(place, row[:-1] + ((("b", 1),),)), False)
        self.assertIs(machine_has(place, row[:-1] + ((("a", 2),),)), False)
        row = ((("b", 0),),) + tuple((("a", k % 3), ("b", (k + 1) % 3)) for k in range(59))
        self.assertIs(machine_has(last, row), True)
        self.assertIs(machine_has(last, row[:30] + row[31:]), False)
        self.assertIs(machine_has(last, row[:30] + ((("a", 2),),) + row[30:]), True)

    def test_long_rows_by_chance(self):
        chance = random.Random(41)
        for things in (1, 2, 3):
            for part in every_part(things):
                machine, system = part_machine(things, part), part_system(things, part)
                row = some_row(chance, system, 60)
                self.assertIs(machine_has(machine, row), True, (things, part, row))
                for bent in bent_rows(chance, row, sorted(ports_of(part)), things):
                    self.assertIs(machine_has(machine, bent), system.has(bent), (things, part, bent))

    def test_as_the_net_of_the_part_alone(self):
        chance = random.Random(42)
        for things in (1, 2):
            for part in every_part(things):
                machine = part_machine(things, part)
                flat = (things, ports_of(part), (part,))
                row = some_row(chance, part_system(things, part), 12)
                for bent in bent_rows(chance, row, sorted(ports_of(part)), things):
                    if all(thing < things for moment in bent for port, thing in moment):
                        self.assertIs(machine_has(machine, bent), has_row(flat, bent), (part, bent))

    def test_the_same_is_told_again(self):
        for part in every_part(2):
            self.assertEqual(part_machine(2, part), part_machine(2, part))


def with_begin(machine):
    return machine, machine[3]


if __name__ == "__main__":
    unittest.main()
