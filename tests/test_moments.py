import copy
import itertools
import random
import unittest

from mannerports.errors import NoMoment, TooMany
from mannerports.moments import first_stand, is_moment, is_stand, led, moments_at
from mannerports.nets import ports_in
from oracle import allowed, every_moment, flat_steps, part_of, ports_of, whole_state
from samples import ODD, deep_list, many_ports, random_flat, ring

HOLDERS = (3, ("a", "x"), (
    ("both", "a", "b"), ("place", "b", "c", None), ("only", "c", "d", (1,)), ("last", "d", "e", 2),
    ("place", "e", "f", 0),
))


def letters(name, count):
    """So many ports that begin with the name."""
    return tuple(name + port for port in many_ports(count))


def tree(name, leaves):
    """Merges with so many ways in: as many moments of one thing, and the still one."""
    if leaves <= 12:
        return (("merge", letters(name, leaves), name + "z"),)
    ins = letters(name, leaves - 12 if leaves <= 23 else 4)
    left = leaves - len(ins)
    inner = [tree(name + "ab"[k], many) for k, many in enumerate([12] if left == 12 else [12, left - 12])]
    outs = tuple(parts[-1][2] for parts in inner)
    return tuple(part for parts in inner for part in parts) + (("merge", ins + outs, name + "z"),)


class FirstStandTest(unittest.TestCase):
    def test_what_places_and_lasts_are_told_with(self):
        self.assertEqual(first_stand(HOLDERS), (None, 2, 0))
        self.assertIs(type(first_stand(HOLDERS)), tuple)

    def test_none_that_hold(self):
        self.assertEqual(first_stand((1, (), ())), ())
        self.assertEqual(first_stand((2, ("a",), (("both", "a", "b"), ("copy", "a", ("c",))))), ())

    def test_the_same_part_twice(self):
        self.assertEqual(first_stand((1, (), (("place", "a", "b", 0),) * 3)), (0, 0, 0))


class IsStandTest(unittest.TestCase):
    def test_right_ones(self):
        for stand in itertools.product((None, 0, 1, 2), repeat=3):
            self.assertIs(is_stand(HOLDERS, stand), True, stand)
        self.assertIs(is_stand((1, ("a",), ()), ()), True)
        self.assertIs(is_stand((1, (), (("last", "a", "b", None),)), (0,)), True)

    def test_one_more_and_one_fewer(self):
        for stand in ((), (None,), (None, 0), (0, 0), (None, 0, 1, 2), (0, 0, 0, 0), (None,) * 5):
            self.assertIs(is_stand(HOLDERS, stand), False, stand)
        for stand in ((None,), (0,), ((),)):
            self.assertIs(is_stand((1, ("a",), ()), stand), False)

    def test_other_things_in_each_place(self):
        for bad in (3, -1, 10 ** 39, True, False, "0", "", "-", (), (0,), [], [0], {}, {0: 0}, deep_list(80)):
            for at in range(3):
                stand = [None, 0, 1]
                stand[at] = bad
                self.assertIs(is_stand(HOLDERS, tuple(stand)), False, stand)

    def test_things_below_the_nets(self):
        for things in (1, 2, 3):
            net = (things, (), (("place", "a", "b", None),))
            for thing in range(5):
                self.assertIs(is_stand(net, (thing,)), thing < things)

    def test_other_kinds(self):
        for bad in ODD + ([None, 0, 1], {0: None, 1: 0, 2: 1}, "abc", ([None], 0, 1), ((None, 0, 1),), deep_list(88)):
            self.assertIs(is_stand(HOLDERS, bad), bad == (None, None, None), bad)
        for bad in ODD:
            self.assertIs(is_stand((1, (), ()), bad), bad == (), bad)


class IsMomentTest(unittest.TestCase):
    def right(self, *moments):
        for moment in moments:
            self.assertIs(is_moment(HOLDERS, moment), True, moment)

    def wrong(self, *moments):
        for moment in moments:
            self.assertIs(is_moment(HOLDERS, moment), False, moment)

    def test_right_ones(self):
        self.right((), (("a", 0),), (("x", 2),), (("a", 1), ("b", 0)), (("b", 0), ("f", 0), ("x", 0)))
        self.right(tuple((port, k % 3) for k, port in enumerate("abcdefx")))

    def test_whether_it_is_let_is_not_asked(self):
        self.right((("a", 0), ("b", 1)), (("c", 1),))

    def test_ports_that_the_net_has_not(self):
        self.wrong((("g", 0),), (("a", 0), ("g", 0)), (("A", 0),), (("", 0),), (("aa", 0),), (("a ", 0),))
        self.assertIs(is_moment((1, (), ()), (("a", 0),)), False)
        self.assertIs(is_moment((1, (), ()), ()), True)

    def test_hidden_and_seen_ports(self):
        net = (2, ("s",), (("both", "h", "k"),))
        for port in ("s", "h", "k"):
            self.assertIs(is_moment(net, ((port, 1),)), True)
            self.assertIs(is_moment(net, ((port, 2),)), False)

    def test_pairs_that_do_not_rise(self):
        self.wrong((("b", 0), ("a", 0)), (("a", 0), ("c", 0), ("b", 0)), (("x", 0), ("a", 2)))

    def test_a_port_twice(self):
        self.wrong((("a", 0), ("a", 0)), (("a", 0), ("a", 1)), (("a", 0), ("b", 0), ("b", 2)))

    def test_things_that_are_none(self):
        for bad in (3, -1, 10 ** 39, True, False, None, "0", (), (0,), [], [0], {}, deep_list(80)):
            self.wrong((("a", bad),), (("a", 0), ("b", bad)), (("a", bad), ("b", 0)))

    def test_ports_that_are_none(self):
        for bad in (0, True, None, (), ("a",), ["a"], {}, {"a": 0}, deep_list(80)):
            self.wrong(((bad, 0),), (("a", 0), (bad, 0)), ((bad, 0), ("a", 0)))

    def test_pairs_that_are_none(self):
        for bad in (("a",), ("a", 0, 0), ("a", 0, "b", 0), ["a", 0], "a0", "a", 0, None, True, {"a": 0}, (),
                    (("a", 0),)):
            self.wrong((bad,), (("a", 0), bad), (bad, ("b", 0)))

    def test_other_kinds(self):
        self.wrong([], [("a", 0)], {"a": 0}, {}, ("a", 0), "a", "", None, 0, True, False, [["a", 0]], deep_list(88))
        self.wrong(*[bad for bad in ODD if bad != ()])


class LedTest(unittest.TestCase):
    def refused(self, flat, stand, moment, number):
        with self.assertRaises(NoMoment, msg=(flat, stand, moment)) as caught:
            led(flat, stand, moment)
        self.assertEqual(caught.exception.number, number)

    def test_where_it_leads(self):
        self.assertEqual(led(HOLDERS, (None, 2, 0), (("a", 1), ("b", 1))), (1, 2, 0))
        self.assertEqual(led(HOLDERS, (1, 2, 0), (("c", 1), ("d", 1))), (None, 1, 0))
        self.assertEqual(led(HOLDERS, (1, 2, 0), (("c", 1), ("d", 1), ("f", 0), ("x", 2))), (None, 1, None))
        self.assertEqual(led(HOLDERS, (None, 1, None), (("a", 0), ("b", 0), ("e", 1))), (0, 1, 1))
        self.assertIs(type(led(HOLDERS, (None, 2, 0), ())), tuple)

    def test_the_still_moment_leads_nowhere_else(self):
        for stand in itertools.product((None, 0, 1, 2), repeat=3):
            self.assertEqual(led(HOLDERS, stand, ()), stand)
            self.assertEqual(led(HOLDERS, stand, (("x", 1),)), stand)

    def test_first_part_that_does_not_let_it(self):
        stand = (None, 2, 0)
        self.refused(HOLDERS, stand, (("a", 1),), 0)
        self.refused(HOLDERS, stand, (("a", 1), ("b", 0)), 0)
        self.refused(HOLDERS, stand, (("c", 1), ("d", 1)), 1)
        self.refused(HOLDERS, (0, 2, 0), (("c", 0), ("d", 0)), 2)
        self.refused(HOLDERS, stand, (("e", 1),), 3)
        self.refused(HOLDERS, stand, (("e", 2),), 4)
        self.refused(HOLDERS, stand, (("f", 1),), 4)

    def test_the_first_where_several_do_not(self):
        self.refused(HOLDERS, (0, 2, 0), tuple((port, 1) for port in "bcdef"), 0)
        self.refused(HOLDERS, (0, 2, 0), tuple((port, 1) for port in "abcdef"), 1)
        self.refused((1, ("a",), (("drain", "b", "c"), ("both", "a", "b"), ("both", "a", "b"))), (), (("a", 0),), 1)

    def test_part_numbers_count_all_parts(self):
        flat = (1, (), (("both", "a", "b"),) * 5 + (("place", "c", "d", None),))
        self.refused(flat, (None,), (("d", 0),), 5)

    def test_against_each_part(self):
        chance = random.Random(4)
        for _ in range(80):
            flat = random_flat(chance, "abcd")
            stand = tuple(chance.choice([None] + list(range(flat[0]))) for _ in first_stand(flat))
            leads = dict(flat_steps(flat, stand))
            for moment in every_moment(ports_in(flat), flat[0]):
                if moment in leads:
                    self.assertEqual(led(flat, stand, moment), leads[moment])
                else:
                    self.refused(flat, stand, moment, self.first_against(flat, stand, moment))

    def first_against(self, flat, stand, moment):
        for number, (part, held) in enumerate(zip(flat[2], whole_state(flat, stand))):
            if part_of(moment, ports_of(part)) not in allowed(part, held, flat[0]):
                return number


class MomentsAtTest(unittest.TestCase):
    def look(self, flat, stand):
        found = moments_at(flat, stand)
        self.assertIs(type(found), list)
        self.assertEqual(found, [moment for moment, behind in flat_steps(flat, stand)], (flat, stand))

    def test_a_place(self):
        flat = (2, ("a", "b"), (("place", "a", "b", None),))
        self.assertEqual(moments_at(flat, (None,)), [(), (("a", 0),), (("a", 1),)])
        self.assertEqual(moments_at(flat, (1,)), [(), (("b", 1),)])

    def test_no_parts(self):
        self.assertEqual(moments_at((3, (), ()), ()), [()])
        self.assertEqual(moments_at((2, ("a",), ()), ()), [(), (("a", 0),), (("a", 1),)])
        self.look((2, ("c", "a", "b"), ()), ())
        self.assertEqual(len(moments_at((3, many_ports(5), ()), ())), 4 ** 5)

    def test_seen_ports_that_no_part_has(self):
        self.look((2, ("x", "a", "m"), (("both", "a", "b"),)), ())
        self.look((1, ("x", "m"), (("place", "a", "b", 0), ("place", "b", "c", None))), (0, None))

    def test_hidden_ports_are_among_them(self):
        self.assertEqual(moments_at((1, (), (("both", "a", "b"),)), ()), [(), (("a", 0), ("b", 0))])

    def test_a_port_that_two_of_a_kind_share(self):
        self.look((1, (), (("place", "a", "b", 0), ("place", "b", "a", None))), (0, None))
        self.look((1, (), (("merge", ("a", "b"), "c"), ("merge", ("a", "c"), "b"))), ())
        self.look((2, (), (("copy", "a", ("b", "c")), ("either", "b", "c"))), ())

    def test_rising_as_python_sorts(self):
        found = moments_at((2, ("b", "a", "c"), ()), ())
        self.assertEqual(found, sorted(found))
        self.assertEqual(found[:4], [(), (("a", 0),), (("a", 0), ("b", 0)), (("a", 0), ("b", 0), ("c", 0))])

    def test_small_nets_against_all_choices(self):
        chance = random.Random(1)
        for _ in range(250):
            flat = random_flat(chance, "abcde")
            self.look(flat, first_stand(flat))
            self.look(flat, tuple(chance.choice([None] + list(range(flat[0]))) for _ in first_stand(flat)))

    def test_three_things_against_all_choices(self):
        chance = random.Random(2)
        for _ in range(40):
            flat = random_flat(chance, "abcd", things=3)
            self.look(flat, first_stand(flat))

    def test_eight_to_eleven_ports(self):
        chance = random.Random(6)
        for count in (8, 9, 10, 11):
            for _ in range(3):
                ports = "abcdefghijk"[:count]
                parts = random_flat(chance, ports, 4, 0, 1)[2]
                # Joined one to the next, so that just these ports are there, in one.
                parts += tuple(("loose", one, other) for one, other in zip(ports, ports[1:]))
                flat = (1, tuple(ports[:6]), parts)
                self.look(flat, first_stand(flat))

    def test_eleven_ports_of_three_things(self):
        ports = "abcdefghijk"
        flat = (3, tuple(ports[:6]), tuple(("both", one, other) for one, other in zip(ports, ports[1:])))
        self.assertEqual(moments_at(flat, ()), [()] + [tuple((port, x) for port in ports) for x in (0, 1, 2)])
        flat = (3, (), tuple(("drain", one, other) for one, other in zip(ports[:6], ports[1:6])))
        self.assertEqual(len(moments_at(flat, ())), 1 + 3 ** 6)
        flat = (3, (), tuple(("place", one, other, 1) for one, other in zip(ports, ports[1:])))
        self.assertEqual(moments_at(flat, (1,) * 10), [(), (("k", 1),)])

    def test_a_knot_of_twelve(self):
        ends = many_ports(12)
        for things in (1, 2, 3):
            for part in (("copy", "a", ends), ("merge", ends, "a"), ("copy", "z", ends), ("merge", ends, "z")):
                flat = (things, ("a",) + ends[:5], (part,))
                free = [()] if "a" in ports_of(part) else [()] + [(("a", x),) for x in range(things)]
                let = [one + other for one in free for other in allowed(part, None, things)]
                self.assertEqual(moments_at(flat, ()), sorted(let))

    def test_a_long_chain(self):
        ports = many_ports(121)
        flat = (3, (), tuple(("both", one, other) for one, other in zip(ports, ports[1:])))
        self.assertEqual(len(moments_at(flat, ())), 4)
        flat = (1, (), tuple(("loose", one, other) for one, other in zip(ports, ports[1:])))
        self.assertEqual(len(moments_at(flat, ())), 122)

    def test_many_knots(self):
        knots = tuple(("merge", letters("ab"[k % 2] + "qrst"[k % 4], 12), "z" + "ab"[k % 2]) for k in range(118))
        closed = (("only", "za", "y", ()), ("only", "zb", "y", ()))
        self.assertEqual(moments_at((3, (), knots + closed), ()), [()])

    def test_ways_that_lead_nowhere(self):
        # Of each two of these ports just one may pass, and the last one of all ties them together.
        tops = letters("t", 10)
        knots = tuple(("merge", letters("xyzuvwpqrs"[k], 2), tops[k]) for k in range(10))
        flat = (1, (), knots + (("copy", "a", tops), ("only", "a", "b", ())))
        self.assertEqual(moments_at(flat, ()), [()])


class ManyMomentsTest(unittest.TestCase):
    def many(self, flat):
        with self.assertRaises(TooMany) as caught:
            moments_at(flat, first_stand(flat))
        self.assertEqual(caught.exception.word, "moments")

    def count(self, flat, count):
        found = moments_at(flat, first_stand(flat))
        self.assertEqual(len(found), count)
        self.assertEqual(found, sorted(set(found)))
        return found

    def test_just_2000(self):
        drains = tuple(("drain", "d" + name, "e" + name) for name in "abc")
        places = tuple(("place", "p" + name, "q" + name, 1) for name in "abcd")
        found = self.count((2, (), drains + places), 2000)
        each = [list(allowed(part, 1, 2)) for part in drains + places]
        whole = [tuple(sorted(sum(choice, ()))) for choice in itertools.product(*each)]
        self.assertEqual(found, sorted(whole))

    def test_just_2000_by_merges(self):
        parts = tree("a", 9) + tree("b", 9) + tree("c", 9) + tree("d", 1)
        self.count((1, (), parts), 2000)
        self.count((1, ("x",), tree("a", 9) + tree("b", 9) + tree("c", 9)), 2000)

    def test_2001(self):
        self.count((1, (), tree("a", 2) + tree("b", 22)), 69)
        self.many((1, (), tree("a", 2) + tree("b", 22) + tree("c", 28)))

    def test_2002(self):
        self.many((1, (), tree("a", 1) + tree("b", 6) + tree("c", 10) + tree("d", 12)))

    def test_somewhat_fewer(self):
        self.count((1, (), tree("a", 26) + tree("b", 36) + (("both", "x", "y"),)), 27 * 37 * 2)
        self.count((2, (), tuple(("both", "a" + x, "b" + x) for x in "abcde") + tree("x", 3)), 243 * 7)

    def test_somewhat_more(self):
        drains = tuple(("drain", "a" + x, "b" + x) for x in "ab")
        self.many((2, (), drains + tuple(("both", x, "z" + x) for x in "abcd")))
        self.many((3, many_ports(6), ()))

    def test_all_of_one_piece(self):
        # Where a passes each of the others may pass it, too: many moments, though all parts share a port.
        def joined(things, ports):
            return (things, (), tuple(("loose", "a", port) for port in ports))
        self.count(joined(1, letters("b", 10)), 1 + 2 ** 10)
        self.count(joined(3, letters("b", 9)), 1 + 3 * 2 ** 9)
        self.many(joined(1, letters("b", 11)))
        self.many(joined(2, letters("b", 10)))

    def test_just_2000_and_2001_of_one_piece(self):
        # Of one thing a last that holds it lets all at both its ports: it joins, and bars nothing.
        def joined(*leaves):
            names = "abcd"[:len(leaves)]
            trees = tuple(part for name, many in zip(names, leaves) for part in tree(name, many))
            return (1, (), trees + tuple(("last", one + "z", other + "z", 0) for one, other in zip(names, names[1:])))
        self.count(joined(9, 9, 9, 1), 2000)
        self.count(joined(2, 22), 69)
        self.many(joined(2, 22, 28))

    def test_far_more(self):
        self.many((3, (), tuple(("both", "a" + port, "b" + port) for port in many_ports(120))))
        names = [x + y for x in "abcdefghij" for y in "abcdefghijkl"]
        self.many((3, (), tuple(("merge", letters(name, 12), "z" + name) for name in names)))
        self.many((3, (), tuple(("drain", "a" + port, "b" + port) for port in many_ports(119)) + (("both", "x", "y"),)))

    def test_by_what_is_held(self):
        flat = (1, (), tuple(("place", "a" + port, "b" + port, None) for port in many_ports(12)))
        self.many(flat)
        drained = (1, (), flat[2] + tuple(("only", "b" + port, "c", ()) for port in many_ports(12)))
        self.many(drained)
        self.assertEqual(moments_at(drained, (0,) * 12), [()])
        self.assertEqual(len(moments_at(drained, (0,) * 3 + (None,) * 9)), 512)

    def test_a_ring(self):
        self.count((1, (), ring("a", 100)), 2)


class HandedInTest(unittest.TestCase):
    def test_a_told_list_may_be_changed(self):
        flat = (2, ("a", "x"), (("place", "a", "b", None),))
        found = moments_at(flat, (None,))
        before = list(found)
        found.append("more")
        found[0] = None
        self.assertEqual(moments_at(flat, (None,)), before)

    def test_nothing_handed_in_is_changed(self):
        for thing in ODD + ([None, [0], {"a": [1]}], ([], {}, ["a", 0]), (["a", 0],), (("a", [0]),)):
            before = copy.deepcopy(thing)
            is_stand(HOLDERS, thing)
            is_moment(HOLDERS, thing)
            self.assertEqual(repr(thing), repr(before))

    def test_what_is_refused_changes_nothing(self):
        stand = (None, 2, 0)
        for _ in range(3):
            self.assertEqual(len(moments_at(HOLDERS, stand)), 4 * 4 * 2)
            with self.assertRaises(NoMoment):
                led(HOLDERS, stand, (("c", 1), ("d", 1)))
            self.assertEqual(led(HOLDERS, stand, (("f", 0),)), (None, 2, None))


if __name__ == "__main__":
    unittest.main()
