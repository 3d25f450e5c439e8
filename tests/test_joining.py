import itertools
import random
import unittest

from mannerports.errors import MannerError, NoJoin
from mannerports.joining import hidden, joined
from mannerports.machines import machine_has, moves_from
from mannerports.partmachines import part_machine
from mannerports.walks import has_row
from kinds import chain, machine_by_words, random_machine, wide_machine
from oracle import every_moment, every_row, part_of
from samples import many_ports
from systems import bent_rows, both, flat_system, hiding, machine_system, parting, some_row

PORTS = (("ab", "bc"), ("abc", "abc"), ("ab", "cd"), ("abc", "b"), ("", "ab"), ("a", "a"), ("", ""))

PLACE = part_machine(2, ("place", "a", "b", None))
NEXT_PLACE = part_machine(2, ("place", "b", "c", None))


def pass_at(port, things=2):
    """A machine that any thing passes at a port."""
    return (things, (port,), 0, (0, ()), ((0, (port,), (((("port", port),), tuple(range(things))),), 0),))


def many_steps(port, other, count):
    """A machine of so many steps: round by one port, which shows at the other once a round."""
    passes = [(port,)] * (count - 1) + [tuple(sorted((port, other)))]
    steps = [
        (k, passing, tuple(((("port", each),), (0, 1)) for each in passing), (k + 1) % count)
        for k, passing in enumerate(passes)
    ]
    return (2, tuple(sorted((port, other))), 0, (0, ()), tuple(steps))


class JoiningTest(unittest.TestCase):
    def is_of(self, machine, things, ports):
        self.assertTrue(machine_by_words(machine), machine)
        self.assertEqual(machine[0], things)
        self.assertEqual(machine[1], tuple(sorted(ports)))

    def refused(self, word, ask, *handed):
        with self.assertRaises(NoJoin) as caught:
            ask(*handed)
        self.assertIsInstance(caught.exception, MannerError)
        self.assertEqual(caught.exception.word, word)

    def look_joined(self, one, other):
        """Look at all rows of two machines joined against both machines' rows."""
        machine = joined(one, other)
        self.is_of(machine, one[0], set(one[1] + other[1]))
        system = both(machine_system(one), one[1], machine_system(other), other[1])
        self.assertIsNone(parting(machine_system(machine), system), (one, other))
        return machine

    def look_hidden(self, machine, ports):
        left = hidden(machine, ports)
        self.is_of(left, machine[0], set(machine[1]) - set(ports))
        self.assertIsNone(parting(machine_system(left), hiding(machine_system(machine), ports)), (machine, ports))
        return left

    def look_at_rows(self, chance, machine, system, length, ports):
        """Look at some rows of what is too large for all rows."""
        row = some_row(chance, system, length)
        self.assertIs(machine_has(machine, row), True)
        for bent in bent_rows(chance, row, ports, machine[0]):
            self.assertIs(machine_has(machine, bent), system.has(bent), bent)


class JoinedTest(JoiningTest):
    def test_two_places(self):
        machine = self.look_joined(PLACE, NEXT_PLACE)
        flat = (2, ("a", "b", "c"), (("place", "a", "b", None), ("place", "b", "c", None)))
        self.assertIsNone(parting(machine_system(machine), flat_system(flat)))
        for row in every_row(flat, 2):
            self.assertIs(machine_has(machine, row), has_row(flat, row), row)

    def test_all_kinds_of_parts(self):
        parts = [
            ("both", "a", "b"), ("loose", "b", "a"), ("drain", "a", "b"), ("either", "b", "c"), ("only", "b", "c", (1,)),
            ("only", "a", "c", ()), ("place", "b", "a", 1), ("last", "a", "b", None), ("last", "b", "c", 0),
            ("copy", "a", ("b", "c")), ("merge", ("a", "b"), "d"),
        ]
        for one, other in itertools.product(parts, repeat=2):
            self.look_joined(part_machine(2, one), part_machine(2, other))

    def test_told_things_that_do_not_meet(self):
        one, other = part_machine(2, ("only", "a", "b", (0,))), part_machine(2, ("only", "b", "c", (1,)))
        machine = self.look_joined(one, other)
        self.assertEqual(moves_from(machine, machine[3]), [((), machine[3])])

    def test_a_port_that_the_other_one_never_passes(self):
        never = (2, ("a", "z"), 0, (0, ()), ())
        machine = self.look_joined(PLACE, never)
        self.assertIs(machine_has(machine, ((("a", 0),),)), False)
        self.look_joined(never, PLACE)

    def test_without_ports_in_common(self):
        machine = self.look_joined(pass_at("a"), pass_at("b"))
        self.assertEqual(sorted({moment for moment, stand in moves_from(machine, machine[3])}), every_moment("ab", 2))

    def test_without_steps_and_without_ports(self):
        nothing = (2, (), 0, (3, ()), ())
        self.look_joined(nothing, nothing)
        self.assertEqual(self.look_joined(nothing, PLACE)[1], ("a", "b"))
        self.look_joined(PLACE, nothing)

    def test_steps_without_passing_ports(self):
        # Each goes on by itself, both at one moment too.
        going = (2, ("a",), 1, (0, (None,)), (
            (0, (), (((("next", 0),), (0, 1)),), 1), (1, ("a",), (((("box", 0), ("port", "a")), (0, 1)),), 0)))
        waiting = (2, ("b",), 0, (5, ()), ((5, (), (), 7), (7, ("b",), (((("port", "b"),), (1,)),), 5)))
        machine = self.look_joined(going, waiting)
        self.assertIs(machine_has(machine, ((), (("a", 1), ("b", 1)), ())), True)
        self.look_joined(waiting, going)
        self.look_joined(going, going)

    def test_ties_of_several_spots(self):
        one = (2, ("a", "b", "c"), 1, (0, (1,)), (
            (0, ("a", "b"), (((("box", 0), ("port", "a")), (0, 1)), ((("next", 0), ("port", "b")), (0, 1))), 0),
            (0, ("a", "b", "c"), (((("port", "a"), ("port", "b"), ("port", "c")), (0, 1)),), 0)))
        other = (2, ("a", "b", "d"), 2, (0, (0, None)), (
            (0, ("a", "b", "d"), (((("next", 1), ("port", "a"), ("port", "b")), (0, 1)), ((("port", "d"),), (1,))), 0),
            (0, ("a", "b"), (((("port", "a"),), (1,)), ((("box", 0), ("next", 0), ("port", "b")), (0, 1))), 0)))
        self.look_joined(one, other)
        self.look_joined(other, one)

    def test_with_itself(self):
        chance = random.Random(71)
        self.look_joined(PLACE, PLACE)
        for _ in range(40):
            machine = random_machine(chance, chance.randint(1, 3), "ab", chance.randint(0, 2), 2, 5)
            self.look_joined(machine, machine)

    def test_by_chance(self):
        chance = random.Random(72)
        for ports, other_ports in PORTS:
            for _ in range(40):
                things = chance.randint(1, 3)
                one = random_machine(chance, things, ports, chance.randint(0, 2), 2, 6)
                other = random_machine(chance, things, other_ports, chance.randint(0, 2), 2, 6)
                self.look_joined(one, other)

    def test_unlike_things(self):
        for one, other in itertools.permutations((1, 2, 3), 2):
            self.refused("things", joined, pass_at("a", one), pass_at("a", other))

    def test_many_boxes(self):
        chance = random.Random(73)
        wide = wide_machine(24)
        echo = part_machine(2, ("loose", "opaa", "x"))
        machine = joined(wide, echo)
        self.is_of(machine, 2, wide[1] + ("x",))
        system = both(machine_system(wide), wide[1], machine_system(echo), echo[1])
        for _ in range(10):
            self.look_at_rows(chance, machine, system, 30, machine[1])
        # Two of 24 boxes each, with steps and one more each that multiplied come to 2401.
        other = tuple(sorted("x" + port for port in wide[1]))
        renamed = (2, other, 24, wide[3], tuple(
            (0, ("x" + passing[0],), tuple((spots[:1] + (("port", "x" + spots[1][1]),), told) for spots, told in ties), 0)
            for begin, passing, ties, end in wide[4]))
        machine = joined(wide, renamed)
        self.is_of(machine, 2, wide[1] + other)
        system = both(machine_system(wide), wide[1], machine_system(renamed), other)
        self.look_at_rows(chance, machine, system, 12, machine[1])

    def test_many_ports(self):
        # One thing at one of 60 ports, the last and the first of them together with one more.
        ports = many_ports(60)
        steps = tuple((0, (port,), (((("port", port),), (0, 1)),), 0) for port in ports)
        one = (2, ports, 0, (0, ()), steps)
        other = part_machine(2, ("merge", (ports[59], ports[0], "x"), "z"))
        machine = self.look_joined(one, other)
        moments = {moment for moment, stand in moves_from(machine, machine[3])}
        together = {((ports[k], x), ("z", x)) for k in (0, 59) for x in (0, 1)}
        self.assertLessEqual(together, moments)
        # Elsewhere the one's ports alone, or x and z alone, or both, or nothing.
        self.assertEqual(len(moments), 4 + (1 + 58 * 2) * (1 + 2))

    def test_many_steps_nearly_4000_multiplied(self):
        chance = random.Random(75)
        for count, other_count in ((62, 62), (1999, 1), (30, 128), (3, 999)):
            self.assertLessEqual((count + 1) * (other_count + 1), 4000)
            one, other = many_steps("a", "b", count), many_steps("c", "b", other_count)
            machine = joined(one, other)
            self.is_of(machine, 2, "abc")
            system = both(machine_system(one), one[1], machine_system(other), other[1])
            self.look_at_rows(chance, machine, system, 60, "abc")

    def test_what_was_told_is_taken_again(self):
        machine = joined(joined(PLACE, NEXT_PLACE), hidden(joined(NEXT_PLACE, pass_at("d")), ("b",)))
        self.assertTrue(machine_by_words(machine))
        self.assertEqual(machine[1], ("a", "b", "c", "d"))


class HiddenTest(JoiningTest):
    def test_a_queue(self):
        machine = self.look_hidden(joined(PLACE, NEXT_PLACE), ("b",))
        flat = (2, ("a", "c"), (("place", "a", "b", None), ("place", "b", "c", None)))
        self.assertIsNone(parting(machine_system(machine), flat_system(flat)))

    def test_none_all_some_twice_in_any_order(self):
        chance = random.Random(81)
        for _ in range(15):
            machine = random_machine(chance, chance.randint(1, 3), "abcd", chance.randint(0, 2), 2, 6)
            self.look_hidden(machine, ())
            for ports in (("a",), ("d", "a"), ("b", "c"), ("a", "a"), ("c", "b", "c", "b"), ("d", "c", "b", "a")):
                self.look_hidden(machine, ports)
            for ports in itertools.permutations("abd"):
                self.assertIsNone(parting(
                    machine_system(hidden(machine, ports)), machine_system(hidden(machine, ("a", "b", "d")))))

    def test_steps_that_become_alike(self):
        two = ((0, ("a",), (((("port", "a"),), (0, 1)),), 0), (0, ("b",), (((("port", "b"),), (0, 1)),), 0))
        self.look_hidden((2, ("a", "b"), 0, (0, ()), two), ("a", "b"))
        self.look_hidden((2, ("a", "b"), 0, (0, ()), two), ("b",))
        tied = tuple((0, (port,), (((("next", 0), ("port", port)), (0, 1)),), 1) for port in "ab")
        self.look_hidden((2, ("a", "b", "c"), 1, (0, (None,)), tied), ("a", "b"))

    def test_a_hidden_port_still_asks_its_boxes(self):
        taking = (2, ("a", "b"), 1, (0, (1,)), (
            (0, ("a",), (((("box", 0), ("port", "a")), (0,)),), 1), (1, ("b",), (((("port", "b"),), (0,)),), 0)))
        self.assertIs(machine_has(hidden(taking, ("a",)), ((), (("b", 0),))), False)
        self.assertIs(machine_has(hidden(taking[:3] + ((0, (0,)), taking[4]), ("a",)), ((), (("b", 0),))), True)

    def test_others_than_its_ports(self):
        for ports in (("z",), ("a", "z"), ("z", "a"), ("a", "b", "c"), ("A",)):
            self.refused("ports", hidden, PLACE, ports)
        self.refused("ports", hidden, (1, (), 0, (0, ()), ()), ("a",))

    def test_many_boxes_and_many_ports(self):
        chance = random.Random(82)
        wide = wide_machine(24)
        for ports in (wide[1][:24], wide[1][1::2], wide[1][24:], wide[1][::-1]):
            machine = hidden(wide, ports)
            self.is_of(machine, 2, set(wide[1]) - set(ports))
            self.look_at_rows(chance, machine, hiding(machine_system(wide), ports), 2, wide[1])

    def test_many_steps(self):
        chance = random.Random(83)
        one = many_steps("a", "b", 2000)
        for ports in (("a",), ("b",), ("b", "a")):
            machine = hidden(one, ports)
            self.look_at_rows(chance, machine, hiding(machine_system(one), ports), 60, "ab")


class InAnyOrderTest(JoiningTest):
    def test_three_joined_in_every_order(self):
        chance = random.Random(91)
        for number in range(20):
            things = 1 + number % 2
            machines = [random_machine(chance, things, ports, chance.randint(0, 1), 2, 4) for ports in ("ab", "bc", "abd")]
            one, other, third = machines
            two = both(machine_system(one), one[1], machine_system(other), other[1])
            system = both(two, "abc", machine_system(third), third[1])
            for a, b, c in itertools.permutations(machines):
                for machine in (joined(joined(a, b), c), joined(a, joined(b, c))):
                    self.is_of(machine, things, "abcd")
                    self.assertIsNone(parting(machine_system(machine), system))

    def test_hidden_ahead_and_behind(self):
        chance = random.Random(92)
        for _ in range(40):
            things = chance.randint(1, 3)
            one = random_machine(chance, things, "abx", chance.randint(0, 2), 2, 5)
            other = random_machine(chance, things, "bc", chance.randint(0, 1), 2, 5)
            behind = hidden(joined(one, other), ("x", "a"))
            for ahead in (joined(hidden(one, ("a", "x")), other), hidden(joined(hidden(one, ("x",)), other), ("a",)),
                          joined(other, hidden(one, ("x", "a")))):
                self.is_of(ahead, things, "bc")
                self.assertIsNone(parting(machine_system(ahead), machine_system(behind)))

    def test_a_chain_of_parts_joined_one_by_one(self):
        things, seen, parts = chain(6, 4, 2)
        ahead = part_machine(things, parts[0])
        for part in parts[1:]:
            ahead = hidden(joined(ahead, part_machine(things, part)), (part[1],) if part[0] != "merge" else part[1])
        self.is_of(ahead, things, seen)
        chance = random.Random(93)
        flat = (things, seen, parts)
        for _ in range(5):
            row = some_row(chance, machine_system(ahead), 40)
            for bent in (row,) + tuple(bent_rows(chance, row, seen, 2)):
                if all(thing < 2 for moment in bent for port, thing in moment):
                    self.assertIs(machine_has(ahead, bent), has_row(flat, bent), bent)

    def test_parts_of_a_moment(self):
        # By the words: a row is had where both have the parts of it.
        chance = random.Random(94)
        for _ in range(20):
            one = random_machine(chance, 1, "ab", 1, 2, 4)
            other = random_machine(chance, 1, "bc", 1, 2, 4)
            machine = joined(one, other)
            for row in itertools.product(every_moment("abc", 1), repeat=2):
                parts = [tuple(part_of(moment, ports) for moment in row) for ports in ("ab", "bc")]
                had = machine_has(one, parts[0]) and machine_has(other, parts[1])
                self.assertIs(machine_has(machine, row), had)


if __name__ == "__main__":
    unittest.main()
