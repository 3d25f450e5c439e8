import copy
import unittest

from mannerports.errors import NoNet
from mannerports.nets import hidden_in, is_net, is_part, ports_in, ports_of, right_net
from samples import ODD, RIGHT_PARTS, many_ports, nested, random_nets, some_parts

TWO_PORTS = ("both", "loose", "drain", "either")


class PartTest(unittest.TestCase):
    def right(self, things, *parts):
        for part in parts:
            self.assertIs(is_part(things, part), True, repr(part))

    def wrong(self, things, *parts):
        for part in parts:
            self.assertIs(is_part(things, part), False, repr(part))

    def test_each_kind(self):
        self.right(2, *[part for part, ports in RIGHT_PARTS])

    def test_odd_things(self):
        for things in (1, 2, 3):
            self.wrong(things, *ODD)

    def test_lists_for_tuples(self):
        for part, ports in RIGHT_PARTS:
            self.wrong(2, list(part))

    def test_one_more_and_one_fewer(self):
        for part, ports in RIGHT_PARTS:
            for more in (None, "c", 0, (), ("c",)):
                self.wrong(2, part + (more,), part + (more, more))
            self.wrong(2, part[:-1], part[1:])

    def test_another_word(self):
        for part, ports in RIGHT_PARTS:
            for word in ("", "Both", "bot", "boths", "within", "end", None, 0, True, (), [], {}, ["both"]):
                self.wrong(2, (word,) + part[1:])

    def test_words_of_other_shapes(self):
        for word in ("place", "last", "only", "copy", "merge", "net"):
            self.wrong(2, (word, "a", "b"))
        for word in TWO_PORTS + ("copy", "merge", "net"):
            self.wrong(2, (word, "a", "b", None), (word, "a", "b", ()))

    def test_no_ports(self):
        for bad in ("", "abcdefghi", "A", "a1", "a ", "a\n", None, 0, True, ("a",), ["a"], {}):
            for word in TWO_PORTS:
                self.wrong(2, (word, bad, "b"), (word, "b", bad))
            for word, last in (("place", None), ("last", 0), ("only", ())):
                self.wrong(2, (word, bad, "b", last), (word, "b", bad, last))
            self.wrong(2, ("copy", bad, ("b",)), ("copy", "b", (bad,)), ("copy", "b", ("c", bad)))
            self.wrong(2, ("merge", ("b",), bad), ("merge", (bad,), "b"), ("merge", ("c", bad), "b"))
            self.wrong(2, ("net", (2, ("p",), ()), (bad,)))

    def test_ports_called_like_words(self):
        for word in TWO_PORTS:
            self.right(2, (word, word, "b"), (word, "net", word))
        for word, last in (("place", None), ("last", 0), ("only", ())):
            self.right(2, (word, word, "b", last), (word, "both", word, last))
        self.right(2, ("copy", "copy", ("merge",)), ("merge", ("merge", "net"), "copy"), ("net", (2, ("net",), ()), ("net",)))

    def test_a_port_twice(self):
        for word in TWO_PORTS:
            self.wrong(2, (word, "a", "a"))
        self.wrong(2, ("place", "a", "a", None), ("last", "a", "a", 0), ("only", "a", "a", (0,)))
        self.wrong(2, ("copy", "a", ("a",)), ("copy", "a", ("b", "a")), ("copy", "a", ("b", "b")))
        self.wrong(2, ("merge", ("a",), "a"), ("merge", ("b", "a"), "a"), ("merge", ("b", "b"), "a"))
        self.wrong(2, ("net", (2, ("p", "q"), ()), ("a", "a")))

    def test_held_things(self):
        for word in ("place", "last"):
            for things in (1, 2, 3):
                self.right(things, *[(word, "a", "b", held) for held in range(things)])
                self.right(things, (word, "a", "b", None))
                for held in (things, things + 1, -1, True, False, "0", "-", (), (0,), [0], [], {}):
                    self.wrong(things, (word, "a", "b", held))

    def test_told_things(self):
        self.right(3, *[("only", "a", "b", told) for told in ((), (0,), (2,), (0, 2), (1, 2), (0, 1, 2))])
        for told in ((3,), (0, 3), (-1,), (0, 0), (1, 0), (0, 2, 1), (None,), (0, None), (None, 0),
                     (True,), (0, True), (False,), ("0",), ((0,),), ([],), [], [0], None, 0, "", {}):
            self.wrong(3, ("only", "a", "b", told))
        self.wrong(1, ("only", "a", "b", (1,)))
        self.wrong(2, ("only", "a", "b", (0, 1, 2)))

    def test_one_to_twelve_ends(self):
        for count in range(15):
            ends = many_ports(count)
            told = self.right if 1 <= count <= 12 else self.wrong
            told(1, ("copy", "a", ends), ("merge", ends, "a"))
            self.wrong(1, ("copy", "a", list(ends)), ("merge", list(ends), "a"))
            self.wrong(1, ("copy", ends, "a"), ("merge", "a", ends))

    def test_ends_that_are_no_tuples(self):
        for bad in (None, "b", "bc", 0, {}, {"b": "c"}, True):
            self.wrong(1, ("copy", "a", bad), ("merge", bad, "a"))

    def test_nets_within(self):
        self.right(3, ("net", (3, many_ports(6), ()), ("f", "e", "d", "c", "b", "a")))
        self.right(1, ("net", (1, ("a",), (("both", "a", "b"),)), ("b",)))

    def test_a_net_within_of_other_things(self):
        for things in (1, 2, 3):
            for inner in (1, 2, 3):
                self.assertIs(is_part(things, ("net", (inner, (), ()), ())), things == inner)
        self.wrong(1, ("net", (True, (), ()), ()))

    def test_fewer_or_more_seen_ports_than_told(self):
        for count in range(9):
            for told in range(9):
                part = ("net", (1, many_ports(count), ()), many_ports(told))
                self.assertIs(is_part(1, part), count == told and count <= 6)

    def test_what_is_no_net_within(self):
        for bad in ODD:
            self.wrong(2, ("net", bad, ()))
        self.wrong(2, ("net", (2, (), (("both", "a", "a"),)), ()))
        self.wrong(2, ("net", (2, ("p",), ()), ["a"]), ("net", (2, (), ()), []), ("net", (2, (), ()), None))

    def test_a_net_within_keeps_the_bounds_of_a_net(self):
        self.right(1, ("net", nested(4), ()), ("net", (1, (), some_parts(120)), ()))
        self.wrong(1, ("net", nested(5), ()), ("net", (1, (), some_parts(121)), ()))


class PortsTest(unittest.TestCase):
    def test_ports_as_they_stand_in_a_part(self):
        for part, ports in RIGHT_PARTS:
            self.assertEqual(ports_of(part), ports)
            self.assertIs(type(ports_of(part)), tuple)

    def test_ports_of_many_ends(self):
        ends = many_ports(12)[::-1]
        self.assertEqual(ports_of(("copy", "a", ends)), ("a",) + ends)
        self.assertEqual(ports_of(("merge", ends, "a")), ends + ("a",))

    def test_a_net_of_nothing(self):
        self.assertEqual(ports_in((1, (), ())), ())
        self.assertEqual(hidden_in((1, (), ())), ())

    def test_ports_rise_each_once(self):
        net = (2, ("y", "b"), (("both", "y", "x"), ("copy", "x", ("c", "a")), ("merge", ("c", "d"), "b")))
        self.assertEqual(ports_in(net), ("a", "b", "c", "d", "x", "y"))
        self.assertEqual(hidden_in(net), ("a", "c", "d", "x"))
        self.assertIs(type(ports_in(net)), tuple)
        self.assertIs(type(hidden_in(net)), tuple)

    def test_seen_ports_that_no_part_has(self):
        net = (1, ("z", "a"), (("both", "m", "k"),))
        self.assertEqual(ports_in(net), ("a", "k", "m", "z"))
        self.assertEqual(hidden_in(net), ("k", "m"))
        self.assertEqual(ports_in((1, ("z", "a"), ())), ("a", "z"))
        self.assertEqual(hidden_in((1, ("z", "a"), ())), ())

    def test_hidden_ports_of_nets_within_are_not_among_them(self):
        inner = (1, ("p", "q"), (("both", "p", "h"), ("both", "h", "q")))
        net = (1, ("a",), (("net", inner, ("b", "a")), ("net", (1, (), (("both", "u", "v"),)), ())))
        self.assertEqual(ports_in(net), ("a", "b"))
        self.assertEqual(hidden_in(net), ("b",))


class NetTest(unittest.TestCase):
    def right(self, *nets):
        for net in nets:
            self.assertIs(right_net(net), True, repr(net))
            self.assertIs(is_net(net), True, repr(net))

    def refused(self, word, path, *things):
        for thing in things:
            with self.assertRaises(NoNet, msg=repr(thing)) as caught:
                right_net(thing)
            self.assertEqual((caught.exception.word, caught.exception.path), (word, path), repr(thing))
            self.assertIs(type(caught.exception.path), tuple)
            self.assertIs(is_net(thing), False, repr(thing))

    def test_right_nets(self):
        self.right((1, (), ()), (2, (), ()), (3, many_ports(6), ()), (2, ("a",), (("both", "a", "b"),)))
        self.right((2, ("b", "a"), tuple(part for part, ports in RIGHT_PARTS)))
        self.right(*random_nets(60))

    def test_no_tuple_of_three(self):
        self.refused("net", (), None, True, 0, 3, "", "abc", [], {}, (), (1,), (1, ()), (1, (), (), ()),
                     [1, (), ()], {1: (), 2: (), 3: ()}, ((1, (), ()),))

    def test_things(self):
        self.refused("things", (), *[(bad, (), ()) for bad in (0, 4, -1, 10 ** 39, True, False, None, "1", (1,), [])])

    def test_seen(self):
        bad_ones = (None, 0, True, "a", "", [], ["a"], {}, {"a": 1}, many_ports(7), ("a", "a"), ("a", "b", "a"),
                    ("A",), ("a", ""), ("a", None), ("a", ["b"]), (("a",),), ("abcdefghi",), ("a\n",), (1,))
        self.refused("seen", (), *[(1, bad, ()) for bad in bad_ones])

    def test_parts(self):
        self.refused("parts", (), *[(1, (), bad) for bad in (None, 0, True, "", "ab", [], [("both", "a", "b")], {})])

    def test_part(self):
        good = ("both", "a", "b")
        for bad in ODD + (("place", "a", "b", 2), ("only", "a", "b", (1, 0)), ("copy", "a", ())):
            self.refused("part", (0,), (2, (), (bad,)), (2, (), (bad, good)), (2, (), (bad, bad)))
            self.refused("part", (2,), (2, (), (good, good, bad)), (2, (), (good, good, bad, bad)))

    def test_first_of_several_in_a_net(self):
        self.refused("things", (), (0, None, None), (True, ("a", "a"), []), (4, (), (None,)))
        self.refused("seen", (), (1, ("a", "a"), None), (1, [], (None,)))

    def test_within(self):
        good = ("both", "a", "b")
        for word, thing in (("net", None), ("net", (1, ())), ("net", [1, (), ()]), ("things", (0, (), ())),
                            ("things", (True, (), ())), ("seen", (1, ["a"], ())), ("seen", (1, many_ports(7), ())),
                            ("parts", (1, (), []))):
            inner = (1, (), (good, good, ("net", thing, ())))
            self.refused(word, (2,), inner)
            self.refused(word, (1, 2), (1, (), (good, ("net", inner, ()))))
            self.refused(word, (0, 1, 2), (1, (), (("net", (1, (), (good, ("net", inner, ()))), ()), None)))

    def test_parts_within(self):
        inner = (1, (), (("both", "a", "b"), ("both", "a", "a")))
        self.refused("part", (0, 1), (1, (), (("net", inner, ()),)))
        self.refused("part", (1, 0, 1), (1, (), (("drain", "a", "b"), ("net", nested(2, inner), ()))))
        self.refused("part", (0, 0, 0, 1), nested(4, inner))

    def test_parts_within_are_of_the_inner_things(self):
        self.refused("part", (0, 0), (1, (), (("net", (1, (), (("place", "a", "b", 1),)), ()),)))
        self.refused("part", (0,), (1, (), (("net", (2, (), (("place", "a", "b", 1),)), ()),)))

    def test_what_would_be_none_whatever_is_within(self):
        for inner in (None, (1, (), ()), (0, (), ())):
            for part in (("net", inner), ("net", inner, (), ()), ["net", inner, ()], ("Net", inner, ()),
                         ("net", inner, []), ("net", inner, None), ("net", inner, ("a", "a")), ("net", inner, ("A",)),
                         ("net", inner, ("a", [])), ("net", inner, "a")):
                self.refused("part", (0,), (1, (), (part,)))

    def test_what_is_within_goes_ahead_of_how_it_fits(self):
        self.refused("seen", (0,), (1, (), (("net", (2, ("a", "a"), ()), ("a",)),)))
        self.refused("net", (0,), (1, (), (("net", None, many_ports(7)),)))
        self.refused("part", (0, 0), (1, (), (("net", (2, (), (None,)), ("a",)),)))

    def test_how_it_fits(self):
        self.refused("part", (0,), (1, (), (("net", (2, (), ()), ()),)))
        self.refused("part", (0,), (1, (), (("net", (1, ("a",), ()), ()),)))
        self.refused("part", (0,), (1, (), (("net", (1, ("a",), ()), ("a", "b")),)))
        self.refused("part", (0,), (1, (), (("net", (1, many_ports(6), ()), many_ports(7)),)))
        self.refused("part", (0, 0), nested(2, (1, (), (("net", (2, (), ()), ()),))))

    def test_each_part_with_all_within_it_ahead_of_the_next(self):
        deep_wrong = ("net", nested(2, (1, (), (None,))), ())
        unfit = ("net", (2, (), ()), ())
        self.refused("part", (0, 0, 0), (1, (), (deep_wrong, None)))
        self.refused("part", (0,), (1, (), (None, deep_wrong)))
        self.refused("part", (0,), (1, (), (unfit, deep_wrong)))
        self.refused("part", (0, 0, 0), (1, (), (deep_wrong, unfit)))

    def test_four_nets_within_one_another_and_a_fifth(self):
        self.right(nested(1), nested(2), nested(3), nested(4))
        self.refused("net", (0, 0, 0, 0), nested(5), nested(6), nested(20))
        for fifth in (None, (0, (), ()), (1, ["a"], ()), (1, (), [])):
            self.refused("net", (0, 0, 0, 0), nested(5, fifth))

    def test_the_fifth_ahead_of_what_stands_behind_it(self):
        fourth = (1, (), (("both", "a", "b"), ("net", (1, (), ()), ("a",)), None))
        self.refused("net", (0, 0, 0, 1), nested(4, fourth))
        self.refused("part", (0, 0, 0, 0), nested(4, (1, (), (None,) + fourth[2])))
        self.refused("part", (0, 0, 0, 0), nested(4, (1, (), (("net", None, ("a", "a")),))))

    def test_120_parts_and_121(self):
        self.right((1, (), some_parts(120)))
        self.refused("many", (), (1, (), some_parts(121)), (1, (), some_parts(500)))

    def test_parts_within_are_counted(self):
        within = ("net", (1, (), some_parts(59)), ())
        self.right((1, (), (within, within)), (1, (), (("net", (1, (), some_parts(119)), ()),)))
        self.right(nested(4, (1, (), some_parts(117))), (1, (), (("net", nested(1), ()),) * 120))
        self.refused("many", (), (1, (), (within, ("both", "a", "b"), within)))
        self.refused("many", (), (1, (), (("net", (1, (), some_parts(120)), ()),)))
        self.refused("many", (), nested(4, (1, (), some_parts(118))), (1, (), (("net", nested(1), ()),) * 121))

    def test_many_behind_all_else(self):
        self.refused("part", (121,), (1, (), some_parts(121) + (None,)))
        self.refused("part", (1,), (1, (), (("net", (1, (), some_parts(130)), ()), None)))
        self.refused("part", (0,), (1, (), (("net", (1, (), some_parts(130)), ("a",)),)))


class HandedInTest(unittest.TestCase):
    def test_nothing_handed_in_is_changed(self):
        for thing in ODD + tuple(part for part, ports in RIGHT_PARTS) + tuple(random_nets(20)):
            for held in (thing, [thing, {"a": [thing]}], (1, (), (thing,)), (1, [thing], [])):
                before = copy.deepcopy(held)
                shown = repr(held)
                is_part(2, held)
                is_net(held)
                self.assertEqual(held, before)
                self.assertEqual(repr(held), shown)

    def test_the_same_is_told_again(self):
        for net in random_nets(20):
            self.assertEqual(ports_in(net), ports_in(net))
            self.assertEqual(hidden_in(net), hidden_in(net))
            self.assertIs(right_net(net), right_net(net))


if __name__ == "__main__":
    unittest.main()
