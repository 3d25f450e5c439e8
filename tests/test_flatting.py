import random
import unittest

from mannerports.flatting import Namer, flat_of, word_by
from mannerports.names import is_port
from mannerports.nets import hidden_in, ports_in, ports_of, right_net
from mannerports.walks import has_row
from oracle import every_row, rows_up_to
from samples import many_ports, random_flat_part, random_nets


def flat_places(net, path=()):
    """The parts of a net but nets within, in the order of the flat one, with the path of their net."""
    for number, part in enumerate(net[2]):
        if part[0] == "net":
            yield from flat_places(part[1], path + (number,))
        else:
            yield path, part


def nets_by_path(net, path=()):
    """The net itself and each net within, by its path."""
    found = {path: net}
    for number, part in enumerate(net[2]):
        if part[0] == "net":
            found.update(nets_by_path(part[1], path + (number,)))
    return found


def resolved(net, path, port):
    """Where a port of the net at this path belongs: the path of the net whose own it is, and its name there."""
    nets = nets_by_path(net)
    while path and port in nets[path][1]:
        part = nets[path[:-1]][2][path[-1]]
        port = part[2][nets[path][1].index(port)]
        path = path[:-1]
    return path, port


def all_names(net):
    return {port for inner in nets_by_path(net).values() for port in ports_in(inner)}


class FlatTest(unittest.TestCase):
    def flat(self, net):
        """The flat one of a net, looked at part by part."""
        right_net(net)
        flat = flat_of(net)
        self.assertIs(right_net(flat), True)
        self.assertEqual(flat[:2], net[:2])
        self.assertNotIn("net", [part[0] for part in flat[2]])
        places = list(flat_places(net))
        self.assertEqual(len(flat[2]), len(places))
        names = {}
        for (path, part), own in zip(places, flat[2]):
            self.look_at_part(part, own)
            for port, called in zip(ports_of(part), ports_of(own)):
                self.assertEqual(names.setdefault(resolved(net, path, port), called), called)
        self.look_at_names(net, names)
        return flat

    def look_at_part(self, part, own):
        """Look whether it is the same part but for its ports."""
        self.assertEqual((own[0], len(own)), (part[0], len(part)))
        self.assertEqual(len(ports_of(own)), len(ports_of(part)))
        if part[0] in ("copy", "merge"):
            self.assertEqual([type(thing) for thing in own], [type(thing) for thing in part])
        else:
            self.assertEqual(own[3:], part[3:])

    def look_at_names(self, net, names):
        """Look whether hidden ports of nets within have names that stand nowhere else, the others their own."""
        self.assertEqual(len(set(names.values())), len(names))
        taken = all_names(net)
        for (path, port), called in names.items():
            if path:
                self.assertIs(is_port(called), True)
                self.assertNotIn(called, taken)
            else:
                self.assertEqual(called, port)

    def test_a_flat_one_has_its_own_parts(self):
        nets = [(2, ("b", "a"), (("both", "a", "h"), ("copy", "h", ("b", "k")), ("merge", ("k", "a"), "u"))),
                (1, (), ()), (3, many_ports(6), ()), (2, (), (("place", "a", "b", 1), ("only", "b", "a", (0, 1))))]
        for net in nets + [flat_of(net) for net in random_nets(40)]:
            self.assertEqual(self.flat(net), net)

    def test_one_within(self):
        inner = (2, ("p", "q"), (("both", "p", "h"), ("place", "h", "q", 1)))
        net = (2, ("a", "b"), (("net", inner, ("b", "c")), ("drain", "c", "a")))
        flat = self.flat(net)
        fresh = flat[2][0][2]
        self.assertEqual(flat, (2, ("a", "b"), (("both", "b", fresh), ("place", fresh, "c", 1), ("drain", "c", "a"))))

    def test_each_kind_of_part_within(self):
        parts = (("both", "p", "h"), ("loose", "h", "q"), ("place", "q", "p", 2), ("last", "h", "p", None),
                 ("drain", "p", "q"), ("either", "q", "h"), ("only", "p", "q", (0, 2)), ("only", "p", "q", ()),
                 ("copy", "p", ("h", "q", "k")), ("merge", ("k", "q"), "p"))
        flat = self.flat((3, ("y",), (("net", (3, ("q", "p"), parts), ("x", "y")),)))
        h, k = flat[2][0][2], flat[2][8][2][2]
        self.assertEqual(flat[2], (
            ("both", "y", h), ("loose", h, "x"), ("place", "x", "y", 2), ("last", h, "y", None),
            ("drain", "y", "x"), ("either", "x", h), ("only", "y", "x", (0, 2)), ("only", "y", "x", ()),
            ("copy", "y", (h, "x", k)), ("merge", (k, "x"), "y")))

    def test_parts_in_the_places_of_the_nets_within(self):
        inner = (1, ("p",), (("place", "p", "h", None), ("place", "h", "k", 0)))
        middle = (1, ("m",), (("both", "m", "n"), ("net", inner, ("n",)), ("drain", "m", "n")))
        net = (1, ("a",), (("loose", "a", "b"), ("net", middle, ("b",)), ("either", "a", "b"), ("net", inner, ("a",))))
        words = [part[0] for part in self.flat(net)[2]]
        self.assertEqual(words, ["loose", "both", "place", "place", "drain", "either", "place", "place"])
        self.assertEqual([part[3] for part in flat_of(net)[2] if part[0] == "place"], [None, 0, None, 0])

    def test_two_three_and_four_within_one_another(self):
        net = (1, ("a", "b"), (("both", "a", "h"), ("both", "h", "b")))
        for deep in (2, 3, 4):
            # In each the same names: hidden, seen and told ones, crossed.
            net = (1, ("a", "b"), (("net", net, ("b", "h")), ("loose", "h", "a"), ("drain", "k", "b")))
            flat = self.flat(net)
            self.assertEqual(len(flat[2]), 2 * deep)

    def test_side_by_side(self):
        inner = (1, ("p", "q"), (("both", "p", "h"), ("both", "h", "q")))
        part = ("net", inner, ("a", "b"))
        flat = self.flat((1, ("a", "b"), (part, part, ("net", inner, ("b", "a")), ("net", inner, ("h", "a")))))
        hidden = {port for own in flat[2] for port in ports_of(own)} - {"a", "b", "h"}
        self.assertEqual(len(hidden), 4)

    def test_hidden_ones_called_like_others(self):
        for name in ("a", "b", "c", "p", "q", "h", "zz"):
            ports = [port for port in ("s", "t", "u") if port != name]
            inner = (1, tuple(ports[:2]), (("both", ports[0], name), ("both", name, ports[1])))
            beside = (1, ("q",), (("both", "q", "h"), ("drain", "h", "p")))
            self.flat((1, ("a", "b"), (("net", inner, ("a", "c")), ("net", beside, ("c",)), ("both", "zz", "b"))))
            self.flat((1, ("a", "b"), (("net", beside, ("a",)), ("net", inner, ("b", "a")), ("both", "zz", "c"))))

    def test_seen_within_called_like_hidden_around(self):
        inner = (1, ("h", "a"), (("both", "h", "k"), ("both", "k", "a")))
        net = (1, ("a",), (("both", "a", "k"), ("net", inner, ("k", "h")), ("drain", "h", "k")))
        flat = self.flat(net)
        self.assertEqual(flat[2][1][1], "k")
        self.assertEqual(flat[2][2][2], "h")

    def test_told_in_another_order(self):
        seen = many_ports(6)
        inner = (2, seen, tuple(("place", port, "h", None) for port in seen))
        for seed in range(20):
            told = list(seen)
            random.Random(seed).shuffle(told)
            flat = self.flat((2, seen, (("net", inner, tuple(told)),)))
            self.assertEqual([part[1] for part in flat[2]], told)

    def test_called_like_the_fresh_ports_of_another_flat_one(self):
        inner = (1, ("p", "q"), (("both", "p", "h"), ("both", "h", "k"), ("both", "k", "q")))
        net = (1, ("x", "y"), (("net", inner, ("x", "y")), ("both", "m", "x")))
        for _ in range(3):
            flat = self.flat(net)
            # Its fresh ports are hidden ones of a net within, hidden ones around it, and told ones.
            called = hidden_in(flat)
            around = (("drain", called[0], called[1]), ("both", called[1], called[2]))
            net = (1, ("x", called[-1]), (("net", flat, ("x", called[0])), ("net", inner, called[:2])) + around)
            self.flat(net)

    def test_every_short_name_taken(self):
        words = [word_by(number) for number in range(60)]
        parts = tuple(("both", one, other) for one, other in zip(words, words[1:]))
        inner = (1, ("a",), (("both", "a", "b"), ("both", "b", "c")))
        flat = self.flat((1, (), parts + (("net", inner, ("zz",)),)))
        self.assertNotIn(flat[2][-1][2], words)

    def test_more_than_a_hundred_hidden_ports(self):
        ports = many_ports(111)
        inner = (1, ports[:1], tuple(("both", one, other) for one, other in zip(ports, ports[1:])))
        flat = self.flat((1, ("a",), (("net", inner, ("a",)),)))
        self.assertEqual(len(hidden_in(flat)), 110)
        knots = tuple(("copy", "h", ports[12 * k:12 * k + 12]) for k in range(9))
        within = ("net", (1, (), knots), ())
        flat = self.flat((1, ports[:6], (within,) * 12))
        self.assertEqual(len(hidden_in(flat)), 12 * 109)

    def test_a_net_within_of_no_parts(self):
        net = (2, ("a",), (("net", (2, ("p", "q"), ()), ("a", "b")), ("both", "a", "c")))
        self.assertEqual(self.flat(net), (2, ("a",), (("both", "a", "c"),)))

    def test_a_net_within_that_sees_nothing(self):
        inner = (2, (), (("both", "a", "b"),))
        flat = self.flat((2, ("a", "b"), (("net", inner, ()),)))
        self.assertEqual(flat[:2], (2, ("a", "b")))
        self.assertFalse(set(ports_of(flat[2][0])) & {"a", "b"})

    def test_random_nets(self):
        for net in random_nets(150):
            self.flat(net)

    def test_beyond_the_bounds(self):
        net = (4, many_ports(8), (("place", "a", "b", 3),) * 130)
        for _ in range(6):
            net = (4, net[1], (("net", net, net[1]),))
        self.assertEqual(len(flat_of(net)[2]), 130)


class NamerTest(unittest.TestCase):
    def test_words_are_counted(self):
        words = [word_by(number) for number in range(26 + 26 * 26 + 2)]
        self.assertEqual(words[:3] + words[24:29], ["a", "b", "c", "y", "z", "aa", "ab", "ac"])
        self.assertEqual(words[26 + 26 * 26 - 1:], ["zz", "aaa", "aab"])
        self.assertEqual(len(set(words)), len(words))
        self.assertTrue(all(is_port(word) for word in words))

    def test_taken_ones_are_not_told(self):
        namer = Namer(["b", "c", "zz"])
        self.assertEqual([namer.fresh() for _ in range(3)], ["a", "d", "e"])


class RowsTest(unittest.TestCase):
    def same_rows(self, net, length):
        """Compare the flat one's rows with what the nets within let, each by itself."""
        flat = flat_of(net)
        rows = rows_up_to(net, length)
        for row in every_row(net, length):
            self.assertIs(has_row(flat, row), row in rows, (net, row))

    def test_places_within(self):
        place = (2, ("i", "o"), (("place", "i", "o", None),))
        pair = (2, ("i", "o"), (("net", place, ("i", "m")), ("net", place, ("m", "o"))))
        self.same_rows((2, ("a", "b"), (("net", pair, ("a", "b")),)), 3)
        self.same_rows((2, ("i",), (("net", pair, ("i", "m")), ("net", pair, ("m", "o")))), 4)

    def test_hidden_ones_called_alike(self):
        inner = (1, ("b", "a"), (("place", "b", "h", None), ("loose", "h", "a")))
        net = (1, ("a", "b"), (("net", inner, ("a", "h")), ("net", inner, ("h", "b")), ("either", "h", "a")))
        self.same_rows(net, 4)

    def test_a_seen_port_that_no_part_has(self):
        inner = (1, ("p", "q"), (("place", "q", "h", None),))
        self.same_rows((1, ("a", "b"), (("net", inner, ("a", "c")), ("both", "b", "c"))), 3)

    def test_four_within_one_another(self):
        net = (1, ("a", "b"), (("last", "a", "h", None), ("both", "h", "b")))
        for part in (("loose", "h", "b"), ("place", "h", "b", 0), ("drain", "h", "b")):
            net = (1, ("b", "a"), (("net", net, ("b", "h")), part, ("either", "h", "a")))
            self.same_rows(net, 3)

    def test_random_nets_within(self):
        chance = random.Random(8)
        for _ in range(60):
            self.same_rows(self.random_net(chance, chance.randint(1, 2), 1), 2)

    def random_net(self, chance, things, deep):
        """A small net with nets within, all their ports called by few names."""
        parts = []
        for _ in range(chance.randint(1, 3)):
            if deep < 3 and chance.random() < 0.6:
                inner = self.random_net(chance, things, deep + 1)
                parts.append(("net", inner, tuple(chance.sample("abc", len(inner[1])))))
            else:
                parts.append(random_flat_part(chance, things, "abcd" if deep == 1 else "abc", 2))
        return (things, tuple(chance.sample("abc", chance.randint(1, 2))), tuple(parts))


class HandedInTest(unittest.TestCase):
    def test_the_same_net_is_there_behind_it(self):
        for net in random_nets(30):
            shown = repr(net)
            one = flat_of(net)
            other = flat_of(net)
            self.assertEqual(repr(net), shown)
            self.assertEqual([part[0] for part in one[2]], [part[0] for part in other[2]])
            self.assertTrue(all(type(part) is tuple for part in one[2]))
            self.assertEqual((type(one), type(one[1]), type(one[2])), (tuple, tuple, tuple))


if __name__ == "__main__":
    unittest.main()
