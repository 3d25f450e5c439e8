import copy
import itertools
import random
import unittest

from mannerports.machines import is_machine, machine_has, moves_from
from bending import bends, of_other_kind
from kinds import machine_by_words, random_machine, wide_machine
from oracle import every_moment
from samples import ODD, deep_list, many_ports
from systems import bent_rows, machine_moves, machine_system, some_row

# What comes at a is held, and goes out at b; a step between two places, and one that lays anything.
WHOLE = (
    2, ("a", "b", "c"), 2, (0, (None, 1)), (
        (0, ("a",), (((("next", 0), ("port", "a")), (0, 1)),), 1),
        (1, ("b", "c"), (((("box", 0), ("port", "b")), (0, 1)), ((("port", "c"),), (1,))), 0),
        (1, (), (), 0),
        (0, (), (((("box", 1), ("next", 1)), (1,)), ((("next", 0),), (0, 1))), 2),
    ),
)
EMPTY = (1, (), 0, (0, ()), ())


def machine(steps, held=(), things=3, ports=("a", "b", "c"), place=0):
    return (things, ports, len(held), (place, held), tuple(steps))


def one_step(ties, held=(), things=3, begin=0, end=0):
    """A machine of one step with these ties."""
    ports = tuple(sorted(at for spots, told in ties for word, at in spots if word == "port"))
    return machine([(begin, ports, tuple(ties), end)], held, things, ports)


def tie(told, *spots):
    return (tuple(sorted(spots)), told)


def box(number):
    return ("box", number)


def to_hold(number):
    return ("next", number)


def at(port):
    return ("port", port)


class IsMachineTest(unittest.TestCase):
    def right(self, *things):
        for thing in things:
            self.assertTrue(machine_by_words(thing), thing)
            self.assertIs(is_machine(thing), True, thing)

    def wrong(self, *things):
        for thing in things:
            self.assertFalse(machine_by_words(thing), thing)
            self.assertIs(is_machine(thing), False, thing)

    def test_right_ones(self):
        self.right(WHOLE, EMPTY)
        self.right((3, ("a",), 0, (0, ()), ()), (3, (), 2, (5, (None, 2)), ()), (1, (), 0, (10 ** 39, ()), ()))
        self.right(machine([(0, (), (), 0), (0, (), (), 7), (10 ** 39, (), (), 0)]))
        self.right(machine([(1, ("a",), (tie((2,), at("a")),), 1), (0, ("a",), (tie((2,), at("a")),), 1)], place=9))
        self.right((2, many_ports(70), 0, (0, ()), ()), wide_machine(30))

    def test_steps_in_any_order_and_ties_in_any_order(self):
        for steps in itertools.permutations(WHOLE[4]):
            self.right(WHOLE[:4] + (steps,))
        ties = [tie((0,), at("a"), box(0)), tie((0, 1), to_hold(1)), tie((1,), at("b")), tie((0, 1), to_hold(0))]
        for order in itertools.permutations(ties):
            self.right(machine([(0, ("a", "b"), order, 0)], (None, 0), 2))

    def test_any_other_plain_thing(self):
        self.wrong(*ODD)
        self.wrong(deep_list(88), WHOLE + (None,), WHOLE[:4], (WHOLE,), list(WHOLE), {0: WHOLE}, "machine")

    def test_other_kinds_at_every_place(self):
        for right in (WHOLE, EMPTY, wide_machine(2)):
            for bent in of_other_kind(right):
                self.wrong(bent)

    def test_bent_at_every_place_by_the_words(self):
        for bent in bends(WHOLE):
            self.assertIs(is_machine(bent), machine_by_words(bent), bent)

    def test_bent_by_chance_by_the_words(self):
        chance = random.Random(31)
        for _ in range(12):
            right = random_machine(chance, chance.randint(1, 3), "abc", chance.randint(0, 2), 2, 3)
            self.right(right)
            for bent in bends(right):
                self.assertIs(is_machine(bent), machine_by_words(bent), bent)

    def test_things(self):
        for things in (0, 4, -1, True, None, "2", (2,), 10 ** 39):
            self.wrong((things,) + EMPTY[1:], (things,) + WHOLE[1:])
        self.right((3,) + WHOLE[1:])
        self.wrong((1,) + WHOLE[1:])

    def test_ports(self):
        for ports in (("b", "a"), ("a", "a"), ("a", "c", "b"), ("A",), ("",), ("a", 1), ("abcdefghi",), "a", ["a"],
                      None, ("a", ("b",)), (None,), {"a": 1}):
            self.wrong((1, ports, 0, (0, ()), ()))
        self.wrong(WHOLE[:1] + (("a", "b"),) + WHOLE[2:], WHOLE[:1] + ((),) + WHOLE[2:])

    def test_boxes(self):
        for boxes in (-1, True, None, "0", (), 10 ** 39):
            self.wrong((1, (), boxes, (0, ()), ()), (1, (), boxes, (0, (0,)), ()))
        self.right((1, (), 1, (0, (0,)), ()))

    def test_begin(self):
        for begin in ((0, (None,)), (0, (None, None, None)), (0, ()), (-1, (None, 1)), (0, (None, 2)), (0, (-1, 1)),
                      (True, (None, 1)), (0, (None, True)), (0, [None, 1]), [0, (None, 1)], (0,), (0, (None, 1), 0),
                      (0, ("0", 1)), (None, (None, 1)), ((None, 1), 0), (0, None), 0, None, ()):
            self.wrong(WHOLE[:3] + (begin,) + WHOLE[4:])
        self.right(WHOLE[:3] + ((4, (1, None)),) + WHOLE[4:])

    def test_a_step_twice(self):
        for step in WHOLE[4]:
            self.wrong(WHOLE[:4] + (WHOLE[4] + (step,),), WHOLE[:4] + ((step, step),))
        self.right(machine([(0, (), (), 0), (0, (), (), 1), (1, (), (), 0)]))

    def test_places_of_steps(self):
        for place in (-1, True, None, "0", (0,)):
            self.wrong(machine([(place, (), (), 0)]), machine([(0, (), (), place)]))

    def test_passing(self):
        two = (tie((0,), at("a"), at("b")),)
        self.right(machine([(0, ("a", "b"), two, 0)]))
        for passing in (("b", "a"), ("a",), (), ("a", "a", "b"), ("a", "b", "c"), ("a", "z"), ("a", "b", "z"),
                        ["a", "b"], "ab", ("a", 1), (("a",), "b"), None):
            self.wrong(machine([(0, passing, two, 0)]))
        self.wrong(machine([(0, ("z",), (tie((0,), at("z")),), 0)]))

    def test_ties_of_no_spots_or_no_told_things(self):
        self.wrong(machine([(0, (), (tie((0,)),), 0)]), machine([(0, ("a",), (tie((), at("a")),), 0)]))
        self.wrong(machine([(0, (), (tie((), box(0)),), 0)], (None,)))

    def test_told_things(self):
        for told in ((1, 0), (0, 0), (3,), (-1,), (True,), (None,), [0], 0, ("0",), ((0,),), {0: 0}):
            self.wrong(machine([(0, ("a",), (((at("a"),), told),), 0)]))
        self.right(machine([(0, ("a",), (((at("a"),), (0, 2)),), 0)]))

    def test_spots_that_do_not_rise(self):
        right = (box(0), box(1), to_hold(0), at("a"), at("b"))
        self.right(machine([(0, ("a", "b"), ((right, (0,)),), 0)], (None, None)))
        for order in itertools.permutations(right):
            if order != right:
                self.wrong(machine([(0, ("a", "b"), ((order, (0,)),), 0)], (None, None)))

    def test_a_spot_twice(self):
        for spot, passing in ((box(0), ()), (to_hold(0), ()), (at("a"), ("a",))):
            self.right(machine([(0, passing, (tie((0,), spot),), 0)], (None,)))
            self.wrong(machine([(0, passing, (tie((0,), spot), tie((1,), spot)), 0)], (None,)))
            self.wrong(machine([(0, passing, (tie((0,), spot, spot),), 0)], (None,)))
            self.wrong(machine([(0, passing, (tie((0,), spot), tie((0,), spot, box(1))), 0)], (None, None)))

    def test_boxes_that_are_not_there(self):
        for number in (1, 2, -1, True, None, "0", 10 ** 39):
            for word in ("box", "next"):
                self.wrong(machine([(0, (), ((((word, number),), (0,)),), 0)], (None,)))
        self.wrong(machine([(0, (), (tie((0,), box(0)),), 0)]))

    def test_spots_of_other_kinds(self):
        for spot in (("box",), ("box", 0, 0), ["box", 0], ("Box", 0), ("port", 0), ("box", "a"), ("next", "a"), "box",
                     (0, "box"), ("port", "A"), ("port", None), (None, 0), ("b", 0), ("", 0), (), None, (["box"], 0)):
            self.wrong(machine([(0, ("a",), (((spot,), (0,)), tie((0,), at("a"))), 0)], (None,)))

    def test_ports_of_passing_in_no_tie_or_in_two(self):
        self.wrong(machine([(0, ("a",), (), 0)]), machine([(0, ("a", "b"), (tie((0,), at("a")),), 0)]))
        self.wrong(machine([(0, ("a",), (tie((0,), at("a")), tie((0,), at("a"))), 0)]))
        self.wrong(machine([(0, ("a",), (tie((0,), at("a")), tie((0,), at("a"), box(0))), 0)], (0,)))

    def test_spots_of_ports_that_do_not_pass(self):
        self.wrong(machine([(0, (), (tie((0,), at("a")),), 0)]))
        self.wrong(machine([(0, ("a",), (tie((0,), at("a"), at("b")),), 0)]))
        self.wrong(machine([(0, ("a",), (tie((0,), at("b")),), 0)]))


class MovesFromTest(unittest.TestCase):
    def look(self, machine, stand, moves):
        self.assertTrue(is_machine(machine), machine)
        found = moves_from(machine, stand)
        self.assertIs(type(found), list)
        self.assertEqual(found, [((), stand)] + moves)
        self.assertEqual(found, machine_moves(machine, stand))

    def test_first_the_still_moment(self):
        self.look(EMPTY, (0, ()), [])
        self.look(EMPTY, (7, ()), [])
        self.look(WHOLE, (9, (None, None)), [])

    def test_step_by_step_in_their_order(self):
        self.look(WHOLE, (0, (None, 1)), [
            ((("a", 0),), (1, (0, 1))), ((("a", 1),), (1, (1, 1))), ((), (2, (0, 1))), ((), (2, (1, 1)))])
        self.look(WHOLE[:4] + (WHOLE[4][::-1],), (0, (None, 1)), [
            ((), (2, (0, 1))), ((), (2, (1, 1))), ((("a", 0),), (1, (0, 1))), ((("a", 1),), (1, (1, 1)))])

    def test_by_the_things_in_the_order_of_the_ties(self):
        ones = tie((0, 2), at("b")), tie((1, 2), at("a"))
        self.look(one_step(ones), (0, ()), [
            ((("a", a), ("b", b)), (0, ())) for b, a in ((0, 1), (0, 2), (2, 1), (2, 2))])
        self.look(one_step(ones[::-1]), (0, ()), [
            ((("a", a), ("b", b)), (0, ())) for a, b in ((1, 0), (1, 2), (2, 0), (2, 2))])

    def test_each_pair_once(self):
        steps = [(0, ("a",), (tie((0, 1), at("a")),), 0), (0, ("a",), (tie((1, 2), at("a")),), 0), (0, (), (), 0)]
        self.look(machine(steps), (0, ()), [((("a", x),), (0, ())) for x in (0, 1, 2)])
        # What the box holds already is laid once more: as the still moment.
        steps = [(0, (), (tie((0, 1, 2), to_hold(0)),), 0)]
        self.look(machine(steps, (None,)), (0, (1,)), [((), (0, (0,))), ((), (0, (2,)))])
        steps = [(0, (), (tie((0,), to_hold(0)),), 0), (0, (), (tie((0, 1), to_hold(0)),), 0)]
        self.look(machine(steps, (None,)), (0, (None,)), [((), (0, (0,))), ((), (0, (1,)))])

    def test_a_box(self):
        taking = one_step([tie((0, 1), box(0), at("a"))], (None, None))
        self.look(taking, (0, (None, 1)), [])
        self.look(taking, (0, (2, 1)), [])
        self.look(taking, (0, (1, 1)), [((("a", 1),), (0, (None, 1)))])
        self.look(one_step([tie((0, 1), box(0))], (None,)), (0, (1,)), [((), (0, (None,)))])

    def test_boxes_that_hold_the_same(self):
        same = one_step([tie((0, 1, 2), box(0), box(1), at("a"))], (None, None))
        self.look(same, (0, (1, 2)), [])
        self.look(same, (0, (None, None)), [])
        self.look(same, (0, (2, None)), [])
        self.look(same, (0, (2, 2)), [((("a", 2),), (0, (None, None)))])

    def test_next_alone(self):
        laying = one_step([tie((0, 2), to_hold(0))], (None, None), end=1)
        self.look(laying, (0, (None, 1)), [((), (1, (0, 1))), ((), (1, (2, 1)))])
        self.look(laying, (0, (1, None)), [((), (1, (0, None))), ((), (1, (2, None)))])
        self.look(laying, (1, (1, None)), [])
        two = one_step([tie((0, 2), to_hold(0), to_hold(1))], (None, None))
        self.look(two, (0, (None, 1)), [((), (0, (0, 0))), ((), (0, (2, 2)))])

    def test_box_and_next_of_one_box_in_one_tie(self):
        keeping = one_step([tie((0, 1), box(0), to_hold(0), at("a"))], (None,))
        self.look(keeping, (0, (1,)), [((("a", 1),), (0, (1,)))])
        self.look(keeping, (0, (2,)), [])
        self.look(keeping, (0, (None,)), [])

    def test_box_and_next_of_one_box_in_two_ties(self):
        ties = [tie((0, 1, 2), box(0), at("b")), tie((0, 1), to_hold(0), at("a"))]
        for order in (ties, ties[::-1]):
            changing = one_step(order, (None,))
            self.look(changing, (0, (None,)), [])
            self.look(changing, (0, (2,)), [((("a", x), ("b", 2)), (0, (x,))) for x in (0, 1)])

    def test_from_box_to_box(self):
        turning = one_step([tie((0, 1, 2), box(0), to_hold(1)), tie((0, 1, 2), box(1), to_hold(0))], (None, None))
        self.look(turning, (0, (1, 2)), [((), (0, (2, 1)))])
        self.look(turning, (0, (1, None)), [])
        moving = one_step([tie((0, 1, 2), box(0), to_hold(1))], (None, None))
        self.look(moving, (0, (1, 2)), [((), (0, (None, 1)))])

    def test_one_thing_at_several_ports(self):
        self.look(one_step([tie((0, 2), at("a"), at("c"), at("b"))]), (0, ()), [
            ((("a", x), ("b", x), ("c", x)), (0, ())) for x in (0, 2)])

    def test_a_step_without_ties(self):
        self.look(machine([(0, (), (), 1)]), (0, ()), [((), (1, ()))])
        self.look(machine([(0, (), (), 1)]), (1, ()), [])

    def test_stands_that_never_come(self):
        self.look(WHOLE, (1, (None, None)), [((), (0, (None, None)))])
        self.look(WHOLE, (1, (1, 0)), [((("b", 1), ("c", 1)), (0, (None, 0))), ((), (0, (1, 0)))])

    def test_many_tuples_few_doings(self):
        # Of 3 ** 24 tuples of told things one is a doing.
        boxes = range(24)
        wide = one_step([tie((0, 1, 2), box(number)) for number in boxes] + [tie((0, 1), at("a"))], (1,) * 24)
        found = moves_from(wide, wide[3])
        self.assertEqual(found, [((), wide[3])] + [((("a", x),), (0, (None,) * 24)) for x in (0, 1)])
        laying = one_step([tie((0, 1, 2), to_hold(number)) for number in range(4)] + [tie((0,), box(4))], (None,) * 5)
        self.assertEqual(moves_from(laying, laying[3]), [((), laying[3])])
        self.assertEqual(len(moves_from(laying, (0, (None,) * 4 + (0,)))), 1 + 81)

    def test_many_steps(self):
        steps = [(k, ("a",), (tie((0, 1), at("a")),), k + 1) for k in range(2000)]
        long = machine(steps)
        self.look(long, (1999, ()), [((("a", x),), (2000, ())) for x in (0, 1)])
        self.look(long, (2000, ()), [])

    def test_by_the_words(self):
        chance = random.Random(32)
        for _ in range(200):
            things = chance.randint(1, 3)
            boxes = chance.randint(0, 3)
            some = random_machine(chance, things, "abc", boxes, 2, 6)
            for place in (0, 1, 2):
                for held in itertools.islice(itertools.product([None] + list(range(things)), repeat=boxes), 20):
                    self.assertEqual(moves_from(some, (place, held)), machine_moves(some, (place, held)), some)


class MachineHasTest(unittest.TestCase):
    def test_the_empty_row(self):
        for some in (EMPTY, WHOLE, wide_machine(3)):
            self.assertIs(machine_has(some, ()), True)

    def test_still_moments(self):
        for some in (EMPTY, WHOLE, wide_machine(3)):
            self.assertIs(machine_has(some, ((),) * 60), True)

    def test_rows(self):
        into, out = (("a", 1),), (("b", 1), ("c", 1))
        self.assertIs(machine_has(WHOLE, (into, out, into, (), out)), True)
        self.assertIs(machine_has(WHOLE, (out,)), False)
        self.assertIs(machine_has(WHOLE, (into, out, out)), False)
        self.assertIs(machine_has(WHOLE, (into, into)), False)
        # A still moment may be the step from 1 to 0, behind which the box is laid anew.
        self.assertIs(machine_has(WHOLE, (into, (), into)), True)
        self.assertIs(machine_has(WHOLE, (into, (("b", 0), ("c", 1)))), False)
        self.assertIs(machine_has(WHOLE, (into, (("b", 1), ("c", 0)))), False)
        self.assertIs(machine_has(WHOLE, ((("a", 2),),)), False)
        self.assertIs(machine_has(WHOLE, ((("a", 1), ("b", 1)),)), False)

    def test_a_way_that_shows_wrong_only_later(self):
        steps = [(0, ("a",), (tie((0,), at("a")),), 1), (0, ("a",), (tie((0,), at("a")),), 2),
                 (1, ("b",), (tie((0,), at("b")),), 0), (2, ("c",), (tie((0,), at("c")),), 0)]
        a, b, c = [((port, 0),) for port in "abc"]
        self.assertIs(machine_has(machine(steps), (a, b, a, c) * 15), True)
        self.assertIs(machine_has(machine(steps), (a, b, a, c) * 14 + (a, c, b)), False)

    def test_sixty_moments_gone_in_many_ways(self):
        # Each still moment lays any thing in some box, or nothing.
        steps = [(0, (), (tie((0, 1), to_hold(number)),), 0) for number in range(4)]
        steps.append((0, ("a",), (tie((0, 1), at("a"), *[box(number) for number in range(4)]),), 0))
        laying = (2, ("a",), 4, (0, (None,) * 4), tuple(steps))
        self.assertTrue(is_machine(laying))
        self.assertIs(machine_has(laying, ((),) * 59 + ((("a", 1),),)), True)
        self.assertIs(machine_has(laying, (((),) * 4 + ((("a", 0),),)) * 12), True)
        self.assertIs(machine_has(laying, (((),) * 4 + ((("a", 0),),)) * 11 + ((),) * 3 + ((("a", 0),),)), False)

    def test_sixty_moments_of_many_boxes(self):
        wide = wide_machine(24)
        self.assertTrue(is_machine(wide))
        outs = tuple((("o" + port, 0),) for port in many_ports(24))
        ins = tuple((("i" + port, 1),) for port in many_ports(12))
        self.assertIs(machine_has(wide, outs + ins + ins), True)
        self.assertIs(machine_has(wide, outs + ins + outs[:1]), False)

    def test_rows_by_moves_and_bent_ones(self):
        chance = random.Random(33)
        for _ in range(80):
            things = chance.randint(1, 3)
            some = random_machine(chance, things, "abc", chance.randint(0, 2), 3, 8)
            system = machine_system(some)
            for length in (1, 2, 5, 20):
                row = some_row(chance, system, length)
                self.assertIs(machine_has(some, row), True, (some, row))
                for bent in bent_rows(chance, row, "abcd", things):
                    self.assertIs(machine_has(some, bent), system.has(bent), (some, bent))

    def test_all_rows_of_two_moments(self):
        chance = random.Random(34)
        for _ in range(20):
            some = random_machine(chance, 1, "ab", 1, 2, 6)
            system = machine_system(some)
            for row in itertools.product(every_moment("ab", 1), repeat=3):
                self.assertIs(machine_has(some, row), system.has(row), (some, row))


class HandedInTest(unittest.TestCase):
    def test_a_told_list_may_be_changed(self):
        told = moves_from(WHOLE, WHOLE[3])
        before = list(told)
        told.clear()
        self.assertEqual(moves_from(WHOLE, WHOLE[3]), before)

    def test_nothing_handed_in_is_changed(self):
        for thing in (["a", [1]], {"a": [1]}, (1, ["a"], 0, (0, ()), ()), (1, (), 0, (0, []), [()])):
            before = copy.deepcopy(thing)
            self.assertIs(is_machine(thing), False)
            self.assertEqual(thing, before)

    def test_told_stands_are_taken_again(self):
        for moment, stand in moves_from(WHOLE, WHOLE[3]):
            self.assertEqual(moves_from(WHOLE, stand)[0], ((), stand))


if __name__ == "__main__":
    unittest.main()
