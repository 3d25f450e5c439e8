import itertools
import random
import unittest

from mannerports.errors import TooMany
from mannerports.flatting import flat_of
from mannerports.moments import first_stand, moments_at
from mannerports.nets import right_net
from mannerports.walks import after, breaks, has_row, seen_next, stands_met, walk_for
from oracle import every_moment, every_row, flat_steps, part_of, rows_up_to, stands_by_words, walk_breaks
from samples import fan_of_moments, fan_of_stands, fed_ring, many_ports, random_flat, random_flat_part, ring

# Two places one behind the other, the port between them hidden.
QUEUE = (2, ("a", "b"), (("place", "a", "h", None), ("place", "h", "b", None)))

# What comes at a goes to either place, unseen which; each has a seen way out.
FORK = (1, ("a", "x", "y"), (("merge", ("h", "k"), "a"), ("place", "h", "x", None), ("place", "k", "y", None)))


def after_by_words(flat, stands, moment):
    found = []
    for stand in stands:
        for whole, behind in flat_steps(flat, stand):
            if part_of(whole, flat[1]) == moment and behind not in found:
                found.append(behind)
    return found


def random_flats(seed, count, ports="abcd", most_parts=4):
    chance = random.Random(seed)
    return [random_flat(chance, ports, most_parts) for _ in range(count)]


class StandsMetTest(unittest.TestCase):
    def refused(self, flat, word):
        right_net(flat)
        with self.assertRaises(TooMany) as caught:
            stands_met(flat)
        self.assertEqual(caught.exception.word, word)

    def count(self, flat, count):
        right_net(flat)
        found = stands_met(flat)
        self.assertIs(type(found), list)
        self.assertEqual(len(found), count)
        self.assertEqual(len(set(found)), count)

    def test_as_they_come(self):
        self.assertEqual(stands_met((1, ("a", "b"), (("place", "a", "b", 0),))), [(0,), (None,)])
        self.assertEqual(stands_met((3, ("a",), (("last", "a", "b", 1),))), [(1,), (0,), (2,)])
        self.assertEqual(stands_met(QUEUE), [
            (None, None), (0, None), (1, None), (None, 0), (None, 1), (0, 0), (1, 0), (0, 1), (1, 1)])

    def test_nothing_held(self):
        self.assertEqual(stands_met((1, (), ())), [()])
        self.assertEqual(stands_met((2, ("a", "x"), (("both", "a", "b"),))), [()])

    def test_stands_that_do_not_come(self):
        self.assertEqual(stands_met((2, (), (("place", "a", "b", 1), ("only", "b", "c", (0,))))), [(1,)])

    def test_by_rising_moments(self):
        # The order hangs on the ports' names alone.
        parts = (("place", "b", "x", None), ("place", "a", "y", None), ("either", "a", "b"))
        self.assertEqual(stands_met((1, (), parts))[:3], [(None, None), (None, 0), (0, None)])
        parts = (("place", "a", "x", None), ("place", "b", "y", None), ("either", "a", "b"))
        self.assertEqual(stands_met((1, (), parts))[:3], [(None, None), (0, None), (None, 0)])

    def test_small_nets_by_the_words(self):
        for flat in random_flats(1, 120) + random_flats(2, 20, "abcde", 6):
            self.assertEqual(stands_met(flat), stands_by_words(flat), flat)

    def test_rings(self):
        flat = (1, (), ring("a", 30))
        places = [tuple(0 if k == at else None for k in range(30)) for at in range(30)]
        self.assertEqual(stands_met(flat), places)

    def test_just_400(self):
        self.count((1, (), ring("a", 20) + ring("b", 20)), 400)
        start = (("place", "s", "p", 0), ("copy", "p", ("ain", "bin")), ("only", "x", "s", ()))
        self.count((1, (), start + fed_ring("a", 19) + fed_ring("b", 21)), 1 + 19 * 21)

    def test_401(self):
        start = (("place", "s", "p", 0), ("copy", "p", ("ain", "bin")), ("only", "x", "s", ()))
        self.refused((1, (), start + fed_ring("a", 20) + fed_ring("b", 20)), "stands")

    def test_somewhat_fewer_and_more(self):
        self.count((1, (), ring("a", 19) + ring("b", 20)), 380)
        self.refused((1, (), ring("a", 20) + ring("b", 21)), "stands")
        self.refused((1, (), ring("a", 40) + ring("b", 40) + ring("c", 40)), "stands")

    def test_more_than_400_by_one_stand(self):
        self.refused((1, (), tuple(("place", "a" + port, "b" + port, None) for port in many_ports(9))), "stands")
        self.count((1, (), tuple(("place", "a" + port, "b" + port, None) for port in many_ports(8))), 256)

    def test_many_moments_at_the_first_stand(self):
        self.refused((3, many_ports(6), ()), "moments")
        self.refused((3, many_ports(6), ring("a", 3)), "moments")

    def test_many_moments_and_many_stands_at_one_stand(self):
        self.refused((1, (), tuple(("place", "a" + port, "b" + port, None) for port in many_ports(12))), "moments")

    def test_many_moments_at_a_later_stand(self):
        flat = (1, (), fan_of_moments("a"))
        self.assertEqual(len(moments_at(flat, (None,))), 2)
        self.refused(flat, "moments")
        # A long way leads there, with few stands.
        self.refused((1, ("s",), ring("r", 30) + (("both", "rba", "ai"),) + fan_of_moments("a")), "moments")

    def test_many_stands_at_a_later_stand(self):
        flat = (1, (), fan_of_stands("a"))
        self.assertEqual(len(moments_at(flat, first_stand(flat))), 2)
        self.assertEqual(len(moments_at(flat, (0,) + (None,) * 9)), 1 + 512)
        self.refused(flat, "stands")

    def test_which_goes_at_different_stands(self):
        # A thing goes to just one of both; by the names of the ports one is met first.
        start = (("place", "s", "t", 0), ("merge", ("ai", "bi"), "t"), ("only", "s", "sx", ()))
        self.refused((1, (), start + fan_of_moments("a") + fan_of_stands("b")), "moments")
        self.refused((1, (), start + fan_of_stands("a") + fan_of_moments("b")), "stands")

    def test_many_stands_long_before_many_moments(self):
        parts = ring("a", 21) + ring("b", 21)
        # The thing of the first ring is far from the fan when 400 stands are there.
        self.refused((1, (), parts + (("both", "aau", "ci"),) + fan_of_moments("c")), "stands")


class AfterTest(unittest.TestCase):
    def test_from_one_stand(self):
        self.assertEqual(after(QUEUE, [(None, None)], (("a", 1),)), [(1, None)])
        self.assertEqual(after(QUEUE, [(1, None)], ()), [(1, None), (None, 1)])
        self.assertEqual(after(QUEUE, [(1, 0)], (("b", 0),)), [(1, None)])
        self.assertEqual(after(QUEUE, [(1, 0)], ()), [(1, 0)])

    def test_none_from_none(self):
        self.assertEqual(after(QUEUE, [], ()), [])
        self.assertEqual(seen_next(QUEUE, []), [])

    def test_a_moment_that_comes_from_none(self):
        self.assertEqual(after(QUEUE, [(1, 0)], (("b", 1),)), [])
        self.assertEqual(after(QUEUE, [(1, 0), (0, None)], (("a", 0),)), [])
        self.assertEqual(after((1, ("a",), (("only", "a", "b", ()),)), [()], (("a", 0),)), [])

    def test_in_the_order_of_the_stands(self):
        self.assertEqual(after(QUEUE, [(0, None), (1, None)], ()), [(0, None), (None, 0), (1, None), (None, 1)])
        self.assertEqual(after(QUEUE, [(1, None), (0, None)], ()), [(1, None), (None, 1), (0, None), (None, 0)])

    def test_each_once(self):
        self.assertEqual(after(QUEUE, [(None, 0), (0, None)], ()), [(None, 0), (0, None)])
        self.assertEqual(after(QUEUE, [(None, 0), (None, 1), (None, None)], (("a", 1),)), [(1, 0), (1, 1), (1, None)])
        self.assertEqual(after(FORK, [(None, None)], (("a", 0),)), [(0, None), (None, 0)])
        self.assertEqual(after(FORK, [(0, None), (None, 0)], (("a", 0),)), [(0, 0)])

    def test_by_rising_moments(self):
        # The second place fills by the lesser moment.
        parts = (("merge", ("a", "b"), "s"), ("place", "b", "x", None), ("place", "a", "y", None))
        self.assertEqual(after((1, ("s",), parts), [(None, None)], (("s", 0),)), [(None, 0), (0, None)])

    def test_hidden_and_free_ports(self):
        flat = (2, ("s", "a"), (("place", "a", "h", None), ("last", "h", "k", None)))
        self.assertEqual(after(flat, [(1, None)], ()), [(1, None), (None, 1)])
        # With s passing, the moment in which h passes, too, is the lesser one.
        self.assertEqual(after(flat, [(1, None)], (("s", 1),)), [(None, 1), (1, None)])
        self.assertEqual(after(flat, [(None, 0)], (("a", 1), ("s", 0))), [(1, 0)])

    def test_stands_that_do_not_come(self):
        flat = (2, ("a",), (("place", "a", "h", None), ("only", "h", "k", (0,)), ("only", "a", "x", (0,))))
        self.assertEqual(stands_met(flat), [(None,), (0,)])
        self.assertEqual(after(flat, [(1,)], ()), [(1,)])
        self.assertEqual(seen_next(flat, [(1,)]), [()])

    def test_by_the_words(self):
        chance = random.Random(5)
        for flat in random_flats(3, 100):
            stands = stands_by_words(flat)
            chance.shuffle(stands)
            for some in (stands[:1], stands[:2], stands[-2:], stands[:8]):
                for moment in every_moment(flat[1], flat[0]):
                    found = after(flat, some, moment)
                    self.assertIs(type(found), list)
                    self.assertEqual(found, after_by_words(flat, some, moment), (flat, some, moment))


class SeenNextTest(unittest.TestCase):
    def test_from_one_stand_and_from_two(self):
        self.assertEqual(seen_next(QUEUE, [(None, None)]), [(), (("a", 0),), (("a", 1),)])
        self.assertEqual(seen_next(QUEUE, [(1, None)]), [()])
        self.assertEqual(seen_next(QUEUE, [(1, 0)]), [(), (("b", 0),)])
        self.assertEqual(seen_next(QUEUE, [(1, 0), (1, 1)]), [(), (("b", 0),), (("b", 1),)])
        self.assertEqual(seen_next(QUEUE, [(1, 1), (None, None)]), [(), (("a", 0),), (("a", 1),), (("b", 1),)])

    def test_nothing_seen(self):
        self.assertEqual(seen_next((2, (), (("both", "a", "b"),)), [()]), [()])
        self.assertEqual(seen_next((2, (), ()), [()]), [()])

    def test_rising_each_once(self):
        flat = (3, ("z", "a"), (("drain", "a", "h"), ("drain", "z", "k"), ("either", "a", "z")))
        alone = [((port, thing),) for port in ("a", "z") for thing in (0, 1, 2)]
        self.assertEqual(seen_next(flat, [()]), [()] + alone)

    def test_six_free_ports_of_three_things(self):
        self.assertEqual(len(seen_next((3, many_ports(6), ()), [()])), 4 ** 6)

    def test_what_is_hidden_does_not_multiply(self):
        parts = tuple(("drain", "a" + port, "b" + port) for port in many_ports(100))
        self.assertEqual(seen_next((3, ("s",), parts), [()]), [(), (("s", 0),), (("s", 1),), (("s", 2),)])

    def test_by_the_words(self):
        chance = random.Random(6)
        for flat in random_flats(4, 100):
            stands = stands_by_words(flat)
            chance.shuffle(stands)
            for some in (stands[:1], stands[:2], stands[:8]):
                steps = [moment for stand in some for moment, behind in flat_steps(flat, stand)]
                found = seen_next(flat, some)
                self.assertIs(type(found), list)
                self.assertEqual(found, sorted({part_of(moment, flat[1]) for moment in steps}), (flat, some))


class RowTest(unittest.TestCase):
    def look(self, flat, row, broken):
        """Look at all that is told of a row that breaks at this number, or None."""
        self.assertIs(has_row(flat, row), broken is None, (flat, row))
        self.assertEqual(breaks(flat, row), broken, (flat, row))
        walk = walk_for(flat, row)
        if broken is not None:
            self.assertIsNone(walk)
        else:
            self.assertIs(type(walk), tuple)
            self.assertIsNone(walk_breaks(flat, walk), (flat, walk))
            self.assertEqual(tuple(part_of(moment, flat[1]) for moment in walk), row)

    def test_the_empty_row(self):
        for flat in (QUEUE, FORK, (1, (), ()), (3, many_ports(6), ())):
            self.look(flat, (), None)
            self.assertEqual(walk_for(flat, ()), ())

    def test_rows_of_a_queue(self):
        self.look(QUEUE, ((("a", 1),), (), (("b", 1),)), None)
        self.look(QUEUE, ((("a", 1),), (), (("a", 0), ("b", 1)), (), (("b", 0),)), None)
        self.assertEqual(walk_for(QUEUE, ((("a", 1),), (), (("b", 1),))), ((("a", 1),), (("h", 1),), (("b", 1),)))

    def test_broken_at_the_first_a_middle_and_the_last_moment(self):
        into, out, still = (("a", 1),), (("b", 1),), ()
        self.look(QUEUE, (out,), 0)
        self.look(QUEUE, (out, into, still, out), 0)
        self.look(QUEUE, (into, into, still), 1)
        self.look(QUEUE, (into, still, (("b", 0),), still), 2)
        self.look(QUEUE, (into, still, out, out), 3)
        self.look(QUEUE, (into, still, out, into, still, into, into), 6)

    def test_a_way_that_shows_wrong_only_later(self):
        self.look(FORK, ((("a", 0),), (("y", 0),)), None)
        self.look(FORK, ((("a", 0),), (("x", 0),)), None)
        self.look(FORK, ((("a", 0),), (("x", 0),), (("y", 0),)), 2)
        self.look(FORK, ((("a", 0),), (("a", 0),), (("x", 0), ("y", 0))), None)
        self.look(FORK, ((("a", 0),), (("a", 0),), (("a", 0),)), 2)

    def test_things_that_the_net_has_not_break_it(self):
        self.look(QUEUE, ((("a", 2),),), 0)
        self.look((1, ("a", "b"), ()), ((("a", 0),), (("a", 1),)), 1)

    def test_sixty_moments_gone_in_many_ways(self):
        into, still = (("a", 0),), ()
        both_out = (("x", 0), ("y", 0))
        self.look(FORK, (into, into, both_out) * 20, None)
        self.look(FORK, (into, (("x", 0),)) * 30, None)
        self.look(FORK, (into, into, both_out) * 19 + (into, into, into), 59)
        # Things that go on unseen from place to place, or stay.
        flat = (1, ("a", "z"), tuple(("place", one, other, None) for one, other in zip("abcde", "bcdez")))
        out = (("z", 0),)
        self.look(flat, (into, still, into) + (still,) * 55 + (out, still), None)
        self.look(flat, (into, still, into) + (still,) * 54 + (out, still, out), None)
        self.look(flat, (into, still, into) + (still,) * 52 + (out, still, out, still, out), 59)
        self.look(flat, (into, still) * 5 + (still,) * 49 + (into,), 59)

    def test_sixty_moments_of_a_ring(self):
        flat = (1, ("raa",), ring("r", 30))
        self.look(flat, ((),) * 29 + ((("raa", 0),),) + ((),) * 29 + ((("raa", 0),),), None)
        self.look(flat, ((),) * 30 + ((("raa", 0),),) + ((),) * 28 + ((("raa", 0),),), 59)
        self.look(flat, ((),) * 28 + ((("raa", 0),),) * 2, 28)

    def test_somewhat_more_than_sixty(self):
        self.look(QUEUE, ((("a", 1),), (), (("b", 1),)) * 25, None)

    def test_nothing_seen(self):
        self.look((2, (), (("place", "a", "b", None),)), ((),) * 5, None)

    def test_by_the_words(self):
        for flat in random_flats(7, 40, "abc", 3):
            self.by_the_words(flat, 2 if flat[0] == 2 else 3)

    def test_four_ports_by_the_words(self):
        for flat in random_flats(9, 40):
            self.by_the_words(flat, 2)

    def by_the_words(self, flat, length):
        rows = rows_up_to(flat, length)
        for row in every_row(flat, length):
            broken = [number for number in range(len(row)) if row[:number + 1] not in rows]
            self.look(flat, row, broken[0] if broken else None)

    def test_of_more_moments_than_2000_is_no_refusal_told(self):
        flat = (3, many_ports(6), ())
        self.look(flat, (tuple((port, 2) for port in sorted(many_ports(6))), ()), None)


class WithinTest(unittest.TestCase):
    def test_rows_of_nets_within_by_their_flat_ones(self):
        chance = random.Random(10)
        for _ in range(30):
            inner = random_flat(chance, "abc", 2, 2, 1)
            parts = [("net", inner, tuple(chance.sample("abc", len(inner[1])))) for _ in range(2)]
            net = (1, ("a", "b"), tuple(parts) + (random_flat_part(chance, 1, "abc"),))
            flat = flat_of(net)
            rows = rows_up_to(net, 3)
            for row in every_row(net, 3):
                broken = [number for number in range(len(row)) if row[:number + 1] not in rows]
                self.assertEqual(breaks(flat, row), broken[0] if broken else None)
                walk = walk_for(flat, row)
                self.assertEqual(walk is None, bool(broken))
                if walk is not None:
                    self.assertIsNone(walk_breaks(flat, walk))
                    self.assertEqual(tuple(part_of(moment, ("a", "b")) for moment in walk), row)


class HandedInTest(unittest.TestCase):
    def test_a_told_list_may_be_changed(self):
        stands = [(1, 0), (0, None)]
        for ask in (lambda: stands_met(QUEUE), lambda: after(QUEUE, stands, ()), lambda: seen_next(QUEUE, stands)):
            told = ask()
            before = list(told)
            told.append("more")
            told.reverse()
            self.assertEqual(ask(), before)

    def test_told_lists_are_not_the_handed_in_ones(self):
        stands = [(None, None)]
        self.assertIsNot(after(QUEUE, stands, ()), stands)
        self.assertIsNot(after(QUEUE, stands, ()), after(QUEUE, stands, ()))

    def test_nothing_handed_in_is_changed(self):
        for flat in random_flats(11, 20):
            stands = stands_by_words(flat)[::-1]
            before = list(stands)
            for moment in itertools.islice(every_moment(flat[1], flat[0]), 5):
                after(flat, stands, moment)
                seen_next(flat, stands)
            self.assertEqual(stands, before)

    def test_told_stands_are_taken_again(self):
        stands = stands_met(QUEUE)
        self.assertEqual(seen_next(QUEUE, stands), seen_next(QUEUE, tuple(stands)))
        self.assertEqual(sorted(after(QUEUE, stands, ()), key=str), sorted(stands, key=str))


if __name__ == "__main__":
    unittest.main()
