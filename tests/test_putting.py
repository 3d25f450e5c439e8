import copy
import itertools
import random
import unittest

from mannerports.errors import MannerError, NoJoin
from mannerports.flatting import flat_of
from mannerports.nets import is_net, right_net
from mannerports.putting import beside, called, hidden_net
from mannerports.walks import has_row
from mannerports.watching import Watch
from oracle import every_row
from samples import ODD, deep_list, many_ports, nested, random_flat, random_net_within, some_parts
from systems import both, flat_system, hiding, net_system, parting, renaming, some_row

PLACE = (2, ("a", "b"), (("place", "a", "b", None),))
LOOSE = (2, ("b", "c"), (("loose", "b", "c"),))


def seeing(*ports, things=1, parts=()):
    return (things, ports, parts)


def of_parts(count):
    """A net of so many parts, that sees two ports."""
    return (1, ("a", "b"), some_parts(count))


class PuttingTest(unittest.TestCase):
    def refused(self, word, ask, *handed):
        with self.assertRaises(NoJoin) as caught:
            ask(*handed)
        self.assertIsInstance(caught.exception, MannerError)
        self.assertEqual(caught.exception.word, word)

    def told(self, net, found):
        self.assertEqual(found, net)
        self.assertIs(right_net(found), True)


class BesideTest(PuttingTest):
    def test_the_very_net(self):
        self.told((2, ("a", "b", "c"), (("net", PLACE, ("a", "b")), ("net", LOOSE, ("b", "c")))), beside(PLACE, LOOSE))
        self.told((2, ("b", "c", "a"), (("net", LOOSE, ("b", "c")), ("net", PLACE, ("a", "b")))), beside(LOOSE, PLACE))
        self.told((2, ("a", "b"), (("net", PLACE, ("a", "b")), ("net", PLACE, ("a", "b")))), beside(PLACE, PLACE))

    def test_seen_ports_alike_and_unlike(self):
        for one, other, seen in (
            ((), (), ()), (("a",), (), ("a",)), ((), ("a",), ("a",)),
            (("b", "a"), ("a", "b"), ("b", "a")), (("c", "a"), ("b", "a"), ("c", "a", "b")),
            (("z", "y"), ("d", "c"), ("z", "y", "d", "c")), (("a", "b", "c"), ("d", "b", "e"), ("a", "b", "c", "d", "e")),
        ):
            self.told((1, seen, (("net", seeing(*one), one), ("net", seeing(*other), other))),
                      beside(seeing(*one), seeing(*other)))

    def test_six_and_seven_together(self):
        six, seven = many_ports(6), many_ports(7)
        self.assertEqual(beside(seeing(*six), seeing(*six))[1], six)
        self.assertEqual(beside(seeing(*six), seeing(*six[::-1]))[1], six)
        self.assertEqual(beside(seeing(*six[:3]), seeing(*six[3:]))[1], six)
        self.assertEqual(beside(seeing(*six[:4]), seeing(*six[1:]))[1], six)
        self.refused("seen", beside, seeing(*six), seeing(seven[6]))
        self.refused("seen", beside, seeing(seven[6]), seeing(*six))
        self.refused("seen", beside, seeing(*seven[:4]), seeing(*seven[3:][::-1], "z"))
        self.refused("seen", beside, seeing(*six), seeing("a", "b", "c", "d", "e", "f"))

    def test_unlike_things(self):
        for one, other in itertools.permutations((1, 2, 3), 2):
            self.refused("things", beside, seeing("a", things=one), seeing("a", things=other))

    def test_as_deep_as_can_be(self):
        self.assertIs(right_net(beside(nested(3), nested(3))), True)
        for one, other in ((4, 1), (1, 4), (4, 4)):
            self.assertIs(is_net(nested(4)), True)
            self.refused("many", beside, nested(one), nested(other))

    def test_as_many_parts_as_can_be(self):
        # Both nets within are parts, too.
        self.assertIs(right_net(beside(of_parts(118), of_parts(0))), True)
        self.assertIs(right_net(beside(of_parts(59), of_parts(59))), True)
        self.refused("many", beside, of_parts(119), of_parts(0))
        self.refused("many", beside, of_parts(59), of_parts(60))
        self.refused("many", beside, of_parts(120), of_parts(120))
        within = (1, (), (("net", of_parts(58), ("x", "y")),))
        self.assertIs(right_net(beside(within, of_parts(59))), True)
        self.refused("many", beside, within, of_parts(60))

    def test_which_refusal_goes(self):
        six = many_ports(6)
        deep = nested(4)
        self.refused("things", beside, seeing(*six), seeing("z", things=2))
        self.refused("things", beside, deep, seeing("z", things=2))
        self.refused("seen", beside, seeing(*six, parts=some_parts(120)), seeing("z"))
        self.refused("seen", beside, (1, six, deep[2]), seeing("z"))
        self.refused("things", beside, (1, six, deep[2]), (2, ("z",), (("both", "a", "b"),) * 120))

    def test_hidden_ports_of_like_names_are_not_the_same(self):
        one = (1, ("a",), (("both", "a", "h"), ("only", "h", "k", ())))
        other = (1, ("b",), (("both", "b", "h"),))
        net = beside(one, other)
        self.assertIs(has_row(flat_of(net), ((("b", 0),),)), True)
        self.assertIs(has_row(flat_of(net), ((("a", 0),),)), False)


class HiddenNetTest(PuttingTest):
    def test_the_very_net(self):
        self.told((2, ("a",), (("net", PLACE, ("a", "b")),)), hidden_net(PLACE, ("b",)))
        self.told((2, ("b",), (("net", PLACE, ("a", "b")),)), hidden_net(PLACE, ("a",)))

    def test_none_all_some_twice_in_any_order(self):
        seen = ("d", "a", "c", "b")
        net = seeing(*seen)
        within = (("net", net, seen),)
        self.told((1, seen, within), hidden_net(net, ()))
        for order in itertools.permutations(seen):
            self.told((1, (), within), hidden_net(net, order))
        for ports in (("a", "b"), ("b", "a"), ("a", "b", "a"), ("b", "a", "a", "b", "b")):
            self.told((1, ("d", "c"), within), hidden_net(net, ports))

    def test_others_than_its_seen_ports(self):
        for ports in (("c",), ("a", "c"), ("h",), ("a", "b", "h"), ("A",)):
            self.refused("ports", hidden_net, (2, ("a", "b"), (("both", "a", "h"), ("both", "h", "b"))), ports)
        self.refused("ports", hidden_net, seeing(), ("a",))

    def test_as_deep_and_as_many_as_can_be(self):
        self.assertIs(right_net(hidden_net(nested(3), ())), True)
        self.refused("many", hidden_net, nested(4), ())
        self.assertIs(right_net(hidden_net(of_parts(119), ("a",))), True)
        self.refused("many", hidden_net, of_parts(120), ("a",))

    def test_which_refusal_goes(self):
        self.refused("ports", hidden_net, nested(4), ("a",))
        self.refused("ports", hidden_net, of_parts(120), ("c",))


class CalledTest(PuttingTest):
    def test_the_very_net(self):
        self.told((2, ("x", "y"), (("net", PLACE, ("x", "y")),)), called(PLACE, ("x", "y")))
        self.told((2, ("b", "a"), (("net", PLACE, ("b", "a")),)), called(PLACE, ("b", "a")))
        self.told((2, ("a", "b"), (("net", PLACE, ("a", "b")),)), called(PLACE, ("a", "b")))
        self.told((1, (), (("net", seeing(), ()),)), called(seeing(), ()))
        self.told((1, many_ports(6), (("net", seeing(*"abcdef"), many_ports(6)),)),
                  called(seeing(*"abcdef"), many_ports(6)))

    def test_names_of_any_other_plain_thing(self):
        # Of these one would be right: two ports.
        odd = tuple(thing for thing in ODD if thing != ("both", "a"))
        for names in odd + (
            ["x", "y"], "xy", ("x", "x"), ("x",), ("x", "y", "z"), ("x", "Y"), ("x", ""), ("x", "y "), ("x", 1),
            ("x", None), ("x", ("y",)), ("x", ["y"]), (["x"], "y"), {"x": "y"}, ("x", "abcdefghi"), (("x", "y"),),
            ("x", True), ("x", {}), deep_list(88), (), None, ("x", "y", "x"),
        ):
            self.refused("names", called, PLACE, names)

    def test_names_of_a_net_that_sees_none(self):
        for names in ODD + (("a",), [], "", {}, None, [()]):
            if names != ():
                self.refused("names", called, seeing(), names)

    def test_as_deep_and_as_many_as_can_be(self):
        self.assertIs(right_net(called(nested(3), ())), True)
        self.refused("many", called, nested(4), ())
        self.assertIs(right_net(called(of_parts(119), ("x", "y"))), True)
        self.refused("many", called, of_parts(120), ("x", "y"))

    def test_which_refusal_goes(self):
        self.refused("names", called, nested(4), ("a",))
        self.refused("names", called, of_parts(120), ["x", "y"])


class RowsTest(unittest.TestCase):
    """The rows of nets put together against the rows of each."""

    def same(self, net, system):
        self.assertIsNone(parting(net_system(net), system), net)

    def flat_has(self, chance, net, system):
        """The package's own rows of the net, by its flat one and by a watch."""
        flat = flat_of(net)
        row = some_row(chance, system, 6)
        self.assertIs(has_row(flat, row), True, (net, row))
        watch = Watch(net)
        for number, moment in enumerate(row):
            self.assertEqual(watch.may_come(), sorted(system.going_on(system.along(row[:number])[-1])))
            watch.saw(moment)

    def test_beside_either_way_about(self):
        chance = random.Random(61)
        for number in range(40):
            one, other = [random_flat(chance, "abc", 3, 2, 1 + number % 2) for _ in range(2)]
            system = both(net_system(one), one[1], net_system(other), other[1])
            for net in (beside(one, other), beside(other, one)):
                self.same(net, system)
                self.flat_has(chance, net, system)

    def test_three_in_both_bundles(self):
        chance = random.Random(62)
        for _ in range(20):
            nets = [random_flat(chance, "abc", 2, 2, 1) for _ in range(3)]
            one, other, third = nets
            two = both(net_system(one), one[1], net_system(other), other[1])
            system = both(two, one[1] + other[1], net_system(third), third[1])
            for a, b, c in itertools.permutations(nets):
                for net in (beside(beside(a, b), c), beside(a, beside(b, c))):
                    self.same(net, system)
            self.flat_has(chance, net, system)

    def test_with_ports_hidden(self):
        chance = random.Random(63)
        for _ in range(30):
            net = random_net_within(chance, 2, chance.randint(1, 2))
            for many in range(len(net[1]) + 1):
                ports = tuple(chance.sample(net[1], many))
                system = hiding(net_system(net), ports)
                self.same(hidden_net(net, ports), system)
                self.flat_has(chance, hidden_net(net, ports), system)

    def test_hidden_ahead_and_behind(self):
        chance = random.Random(64)
        for _ in range(20):
            one = (1, ("a", "b", "d"), random_flat(chance, "abd", 3, 3, 1)[2])
            other = random_flat(chance, "bc", 3, 2, 1)
            self.same(beside(hidden_net(one, ("d",)), other), net_system(hidden_net(beside(one, other), ("d",))))

    def test_hiding_a_port_that_both_have(self):
        net = hidden_net(beside(PLACE, called(PLACE, ("b", "c"))), ("b",))
        queue = (2, ("a", "c"), (("place", "a", "b", None), ("place", "b", "c", None)))
        self.same(net, flat_system(queue))
        for row in every_row((2, ("a", "c"), ()), 2):
            self.assertIs(has_row(flat_of(net), row), has_row(queue, row))

    def test_called_otherwise(self):
        chance = random.Random(65)
        for _ in range(30):
            net = random_net_within(chance, 2, chance.randint(1, 2))
            names = tuple(chance.sample("abcxyz", len(net[1])))
            system = renaming(net_system(net), dict(zip(net[1], names)))
            self.same(called(net, names), system)
            self.flat_has(chance, called(net, names), system)


class HandedInTest(unittest.TestCase):
    def test_nothing_handed_in_is_changed(self):
        names = [["x"], "y"]
        before = copy.deepcopy(names)
        self.assertRaises(NoJoin, called, PLACE, names)
        self.assertEqual(names, before)
        one, other = copy.deepcopy(PLACE), copy.deepcopy(LOOSE)
        beside(one, other), hidden_net(one, ("a",)), called(one, ("x", "y"))
        self.assertEqual((one, other), (PLACE, LOOSE))

    def test_what_was_told_is_taken_again(self):
        net = beside(beside(PLACE, LOOSE), hidden_net(PLACE, ("b",)))
        self.assertIs(right_net(net), True)
        self.assertRaises(NoJoin, called, called(net, ("x", "y", "z")), ("x", "y", "z"))


if __name__ == "__main__":
    unittest.main()
