import random
import unittest

from mannerports.errors import MannerError, NoBack, NoMoment
from mannerports.flatting import flat_of
from mannerports.moments import first_stand
from mannerports.nets import right_net
from mannerports.walks import after, has_row, seen_next, stands_met
from mannerports.watching import Watch
from oracle import every_moment
from samples import fed_ring, random_flat, random_net_within, ring
from systems import net_system

PLACE = (2, ("i", "o"), (("place", "i", "o", None),))
QUEUE = (2, ("a", "b"), (("net", PLACE, ("a", "h")), ("net", PLACE, ("h", "b"))))

# What comes at a goes to either place, unseen which; each has a seen way out.
FORK = (1, ("a", "x", "y"), (("merge", ("h", "k"), "a"), ("place", "h", "x", None), ("place", "k", "y", None)))

IN, STILL, OUT = (("a", 1),), (), (("b", 1),)


def told(watch):
    """All that a watch tells."""
    return watch.may_come(), watch.row_seen(), watch.stands_many()


class WatchTest(unittest.TestCase):
    def look(self, watch, system, row):
        """Look at what a watch tells that has seen this row, against all walks with it."""
        layers = system.along(row)
        self.assertEqual(len(layers), len(row) + 1)
        next_ones = watch.may_come()
        self.assertIs(type(next_ones), list)
        self.assertEqual(next_ones, sorted(system.going_on(layers[-1])))
        self.assertIs(type(watch.row_seen()), tuple)
        self.assertEqual(watch.row_seen(), row)
        self.assertIs(type(watch.stands_many()), int)
        self.assertEqual(watch.stands_many(), len(layers[-1]))

    def refused(self, watch, moment):
        before = told(watch)
        with self.assertRaises(NoMoment) as caught:
            watch.saw(moment)
        self.assertEqual(caught.exception.number, len(before[1]))
        self.assertEqual(told(watch), before)

    def test_at_first(self):
        self.assertEqual(told(Watch((1, (), ()))), ([()], (), 1))
        self.assertEqual(told(Watch(PLACE)), ([(), (("i", 0),), (("i", 1),)], (), 1))
        self.assertEqual(told(Watch(QUEUE)), ([(), (("a", 0),), (("a", 1),)], (), 1))

    def test_a_queue(self):
        watch = Watch(QUEUE)
        self.assertIsNone(watch.saw(IN))
        self.assertEqual(told(watch), ([()], (IN,), 1))
        self.assertIsNone(watch.saw(STILL))
        # The thing may be in the first place still, or in the second.
        can = [(), (("a", 0),), (("a", 0), ("b", 1)), (("a", 1),), (("a", 1), ("b", 1)), OUT]
        self.assertEqual(told(watch), (can, (IN, STILL), 2))
        watch.saw(OUT)
        self.assertEqual(told(watch), ([(), (("a", 0),), (("a", 1),)], (IN, STILL, OUT), 1))

    def test_rows_gone_in_several_ways(self):
        watch = Watch(FORK)
        a, x, y = [((port, 0),) for port in "axy"]
        watch.saw(a)
        self.assertEqual(told(watch), ([(), a, a + x, a + y, x, y], (a,), 2))
        watch.saw(x)
        self.assertEqual(told(watch), ([(), a], (a, x), 1))
        watch.saw(a)
        watch.saw(a)
        self.assertEqual(watch.stands_many(), 1)
        self.assertEqual(watch.may_come(), [(), x, x + y, y])

    def test_the_still_moment_is_seen_too(self):
        watch = Watch(PLACE)
        for _ in range(3):
            watch.saw(())
        self.assertEqual(watch.row_seen(), ((), (), ()))

    def test_moments_that_can_not_be_seen_next(self):
        watch = Watch(QUEUE)
        for moment in (OUT, (("b", 0),), (("a", 1), ("b", 1))):
            self.refused(watch, moment)
        watch.saw(IN)
        for moment in (IN, OUT, (("a", 0), ("b", 1))):
            self.refused(watch, moment)
        watch.saw(STILL)
        self.refused(watch, (("b", 0),))
        watch.saw(OUT)
        self.refused(watch, OUT)
        self.assertEqual(watch.row_seen(), (IN, STILL, OUT))

    def test_things_and_ports_that_it_has_not(self):
        watch = Watch(QUEUE)
        watch.saw(IN)
        watch.back()
        for moment in ((("a", 2),), (("h", 1),), (("i", 1),), (("z", 0),), (("a", True),)):
            self.refused(watch, moment)

    def test_a_refusal_is_a_manner_error(self):
        for ask in (lambda: Watch(PLACE).saw(OUT), lambda: Watch(PLACE).back()):
            self.assertRaises(MannerError, ask)

    def test_back(self):
        watch = Watch(QUEUE)
        before = [told(watch)]
        for moment in (IN, STILL, STILL, OUT):
            watch.saw(moment)
            before.append(told(watch))
        before.pop()
        while before:
            self.assertIsNone(watch.back())
            self.assertEqual(told(watch), before.pop())
        self.assertEqual(watch.row_seen(), ())

    def test_on_behind_back(self):
        watch = Watch(FORK)
        a, x, y = [((port, 0),) for port in "axy"]
        watch.saw(a)
        watch.saw(x)
        self.refused(watch, y)
        watch.back()
        watch.saw(y)
        self.refused(watch, x)
        self.assertEqual(watch.row_seen(), (a, y))
        watch.back()
        watch.back()
        watch.saw(())
        self.refused(watch, x)
        self.assertEqual(watch.row_seen(), ((),))

    def test_no_back(self):
        watch = Watch(QUEUE)
        with self.assertRaises(NoBack):
            watch.back()
        self.assertEqual(told(watch), told(Watch(QUEUE)))
        watch.saw(IN)
        watch.back()
        for _ in range(2):
            with self.assertRaises(NoBack):
                watch.back()
        self.assertEqual(told(watch), told(Watch(QUEUE)))
        watch.saw(IN)
        self.assertEqual(watch.row_seen(), (IN,))

    def test_two_watches_of_one_net_by_turns(self):
        one, other = Watch(QUEUE), Watch(QUEUE)
        one.saw(IN)
        self.assertEqual(told(other), told(Watch(QUEUE)))
        other.saw((("a", 0),))
        one.saw(STILL)
        self.assertEqual(other.row_seen(), ((("a", 0),),))
        self.assertEqual(other.stands_many(), 1)
        other.saw(STILL)
        self.refused(other, OUT)
        one.saw(OUT)
        self.refused(one, (("b", 0),))
        other.saw((("b", 0),))
        one.back()
        self.assertEqual(one.row_seen(), (IN, STILL))
        self.assertEqual(other.row_seen(), ((("a", 0),), STILL, (("b", 0),)))

    def test_watches_of_two_nets_by_turns(self):
        one, other = Watch(QUEUE), Watch(FORK)
        one.saw(IN)
        other.saw((("a", 0),))
        self.assertEqual(one.may_come(), [()])
        self.assertEqual(other.stands_many(), 2)
        one.back()
        self.assertEqual(other.row_seen(), ((("a", 0),),))
        self.assertEqual(one.row_seen(), ())

    def test_what_is_told_is_the_askers_own(self):
        watch = Watch(QUEUE)
        watch.saw(IN)
        first = watch.may_come()
        before = list(first)
        first.append("more")
        first.reverse()
        self.assertEqual(watch.may_come(), before)
        self.assertIsNot(watch.may_come(), watch.may_come())

    def test_hidden_ways_do_not_show(self):
        # One thing goes round unseen; with each moment it may be one place further.
        watch = Watch((1, ("raa",), ring("r", 30)))
        for count in range(30):
            self.assertEqual(watch.stands_many(), count + 1)
            watch.saw(())
        self.assertEqual(watch.stands_many(), 30)
        watch.saw((("raa", 0),))
        self.assertEqual(watch.stands_many(), 1)
        watch.back()
        self.assertEqual(watch.stands_many(), 30)

    def test_flat_nets_against_all_walks(self):
        chance = random.Random(51)
        for _ in range(60):
            self.against_all_walks(chance, random_flat(chance, "abcd", 4, 3))

    def test_nets_within_against_all_walks(self):
        chance = random.Random(52)
        for deep in (2, 3, 4):
            for _ in range(25):
                self.against_all_walks(chance, random_net_within(chance, deep, chance.randint(1, 2)))

    def against_all_walks(self, chance, net):
        right_net(net)
        watch, system = Watch(net), net_system(net)
        row = ()
        for _ in range(8):
            self.look(watch, system, row)
            can = watch.may_come()
            for moment in every_moment(net[1], net[0]):
                if moment not in can:
                    self.refused(watch, moment)
            if chance.random() < 0.3 and row:
                watch.back()
                row = row[:-1]
            else:
                moment = chance.choice(can)
                watch.saw(moment)
                row += (moment,)

    def test_long_rows_of_many_parts_by_what_walks_tell(self):
        chance = random.Random(53)
        parts = fed_ring("a", 6) + (("loose", "s", "ain"), ("copy", "aac", ("t", "u")))
        inner = (1, ("s", "t"), parts)
        net = (1, ("x", "y"), (("net", inner, ("x", "y")), ("last", "y", "k", None)))
        right_net(net)
        flat = flat_of(net)
        self.assertLessEqual(len(stands_met(flat)), 400)
        watch, stands, row = Watch(net), [first_stand(flat)], ()
        for _ in range(60):
            self.assertEqual(watch.may_come(), seen_next(flat, stands))
            self.assertEqual(watch.stands_many(), len(stands))
            moment = chance.choice(watch.may_come())
            watch.saw(moment)
            stands = after(flat, stands, moment)
            row += (moment,)
        self.assertEqual(watch.row_seen(), row)
        self.assertIs(has_row(flat, row), True)
        for _ in range(60):
            watch.back()
        self.assertEqual(told(watch), told(Watch(net)))


if __name__ == "__main__":
    unittest.main()
