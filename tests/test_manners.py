import itertools
import unittest

from mannerports.manners import choices_of, held_behind, lets
from mannerports.nets import ports_of
from oracle import allowed
from samples import many_ports

# What passes at a in rows, at b in columns: nothing, 0, 1, 2. A point is not let; else x, or what the
# part holds behind it.
NOTHING_ALONE = ("x...", "....", "....", "....")
SAME = ("x...", ".x..", "..x.", "...x")
GRIDS = (
    (("both", "a", "b"), None, SAME),
    (("copy", "a", ("b",)), None, SAME),
    (("merge", ("a",), "b"), None, SAME),
    (("loose", "a", "b"), None, ("x...", "xx..", "x.x.", "x..x")),
    (("drain", "a", "b"), None, ("x...", ".xxx", ".xxx", ".xxx")),
    (("either", "a", "b"), None, ("xxxx", "x...", "x...", "x...")),
    (("only", "a", "b", ()), None, NOTHING_ALONE),
    (("only", "a", "b", (0,)), None, ("x...", ".x..", "....", "....")),
    (("only", "a", "b", (1,)), None, ("x...", "....", "..x.", "....")),
    (("only", "a", "b", (2,)), None, ("x...", "....", "....", "...x")),
    (("only", "a", "b", (0, 1)), None, ("x...", ".x..", "..x.", "....")),
    (("only", "a", "b", (0, 2)), None, ("x...", ".x..", "....", "...x")),
    (("only", "a", "b", (1, 2)), None, ("x...", "....", "..x.", "...x")),
    (("only", "a", "b", (0, 1, 2)), None, SAME),
    (("place", "a", "b", None), None, ("-...", "0...", "1...", "2...")),
    (("place", "a", "b", None), 0, ("0-..", "....", "....", "....")),
    (("place", "a", "b", None), 1, ("1.-.", "....", "....", "....")),
    (("place", "a", "b", None), 2, ("2..-", "....", "....", "....")),
    (("last", "a", "b", None), None, ("-...", "0...", "1...", "2...")),
    (("last", "a", "b", None), 0, ("00..", "00..", "11..", "22..")),
    (("last", "a", "b", None), 1, ("1.1.", "0.0.", "1.1.", "2.2.")),
    (("last", "a", "b", None), 2, ("2..2", "0..0", "1..1", "2..2")),
)

# What passes at a, b, c, as they stand in the part.
COPY_OF_TWO = ("---", "000", "111", "222")
MERGE_OF_TWO = ("---", "0-0", "-00", "1-1", "-11", "2-2", "-22")

SIGNS = {"-": None, "x": None, "0": 0, "1": 1, "2": 2}
EACH = (None, 0, 1, 2)


def moment_of(ports, things):
    return tuple(sorted((port, thing) for port, thing in zip(ports, things) if thing is not None))


def renamed(part, names):
    """The part with its ports called otherwise."""
    def name(thing):
        if isinstance(thing, tuple):
            return tuple(name(each) for each in thing)
        return names.get(thing, thing)
    return (part[0],) + tuple(name(thing) for thing in part[1:])


class GridTest(unittest.TestCase):
    def look(self, part, held, names, more):
        """Look at each cell of the part's grid, with other ports passing more."""
        grid = [cells for other, holds, cells in GRIDS if (other, holds) == (part, held)][0]
        called = renamed(part, dict(zip("ab", names)))
        for (row, one), (column, other) in itertools.product(enumerate(EACH), enumerate(EACH)):
            moment = tuple(sorted(moment_of(names, (one, other)) + more))
            sign = grid[row][column]
            self.assertIs(lets(called, held, moment), sign != ".", (called, held, moment))
            if sign != ".":
                self.assertIs(held_behind(called, held, moment), SIGNS[sign], (called, held, moment))

    def test_each_kind_over_all_moments(self):
        for part, held, grid in GRIDS:
            self.look(part, held, "ab", ())

    def test_names_in_the_other_order(self):
        for part, held, grid in GRIDS:
            self.look(part, held, ("zz", "aa"), ())

    def test_other_ports_change_nothing(self):
        for part, held, grid in GRIDS:
            for more in ((("c", 0),), (("aa", 2), ("c", 1)), (("aa", 0), ("ab", 1), ("bb", 2), ("c", 0))):
                self.look(part, held, "ab", more)

    def test_what_it_is_told_with_is_not_what_it_holds(self):
        for part, held, grid in GRIDS:
            if part[0] in ("place", "last"):
                for told in EACH:
                    for one, other in itertools.product(EACH, EACH):
                        moment = moment_of("ab", (one, other))
                        like = part[:3] + (told,)
                        self.assertIs(lets(like, held, moment), lets(part, held, moment))
                        if lets(part, held, moment):
                            self.assertIs(held_behind(like, held, moment), held_behind(part, held, moment))

    def test_each_holds_on_where_nothing_passes(self):
        for part, held, grid in GRIDS:
            self.assertIs(lets(part, held, ()), True)
            self.assertIs(held_behind(part, held, ()), held)
            self.assertIs(held_behind(part, held, (("c", 1),)), held)


class KnotTest(unittest.TestCase):
    def look(self, part, let):
        for things in itertools.product(EACH, repeat=3):
            signs = "".join("-" if thing is None else str(thing) for thing in things)
            for more in ((), (("x", 1),)):
                moment = tuple(sorted(moment_of(ports_of(part), things) + more))
                self.assertIs(lets(part, None, moment), signs in let, (part, moment))
                if signs in let:
                    self.assertIsNone(held_behind(part, None, moment))

    def test_copy_of_two(self):
        self.look(("copy", "a", ("b", "c")), COPY_OF_TWO)
        self.look(("copy", "m", ("z", "a")), COPY_OF_TWO)

    def test_merge_of_two(self):
        self.look(("merge", ("a", "b"), "c"), MERGE_OF_TWO)
        self.look(("merge", ("z", "a"), "m"), MERGE_OF_TWO)

    def near(self, part, let):
        """Look at what is let of thirteen ports, and at all that is like it but for one or two of them."""
        let = set(let)
        looked = set()
        for things in let:
            for one, other in itertools.product(range(13), range(13)):
                for x, y in itertools.product(EACH, EACH):
                    changed = list(things)
                    changed[one], changed[other] = x, y
                    looked.add(tuple(changed))
        self.assertLessEqual(let, looked)
        for things in looked:
            moment = moment_of(ports_of(part), things)
            self.assertIs(lets(part, None, moment), things in let, moment)
            if things in let:
                self.assertIsNone(held_behind(part, None, moment))

    def test_copy_of_twelve(self):
        self.near(("copy", "a", many_ports(12)), [(thing,) * 13 for thing in EACH])

    def test_merge_of_twelve(self):
        let = [(None,) * 13]
        for at in range(12):
            for thing in (0, 1, 2):
                let.append(tuple(thing if k in (at, 12) else None for k in range(13)))
        self.near(("merge", many_ports(12), "a"), let)


class ChoicesTest(unittest.TestCase):
    def test_all_that_a_part_lets_each_once(self):
        parts = [(part, held) for part, held, grid in GRIDS]
        parts += [(("copy", "a", many_ports(12)), None), (("merge", many_ports(12), "a"), None)]
        for part, held in parts:
            choices = choices_of(3, part, held)
            moments = [moment_of(ports_of(part), choice) for choice in choices]
            self.assertEqual(sorted(moments), sorted(allowed(part, held, 3)))

    def test_fewer_things(self):
        self.assertEqual(sorted(choices_of(1, ("drain", "a", "b"), None), key=str), [(0, 0), (None, None)])
        self.assertEqual(len(choices_of(2, ("drain", "a", "b"), None)), 5)
        self.assertEqual(len(choices_of(2, ("merge", ("a", "b"), "c"), None)), 5)


class OracleTest(unittest.TestCase):
    def test_the_other_tests_look_by_the_same_manners(self):
        for part, held, grid in GRIDS:
            table = allowed(part, held, 3)
            for one, other in itertools.product(EACH, EACH):
                moment = moment_of("ab", (one, other))
                sign = grid[EACH.index(one)][EACH.index(other)]
                self.assertEqual(moment in table, sign != ".")
                if sign != ".":
                    self.assertIs(table[moment], SIGNS[sign])


if __name__ == "__main__":
    unittest.main()
