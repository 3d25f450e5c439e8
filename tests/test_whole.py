"""The promise over the whole program: the same rows whatever is asked, and whatever was made first."""

import itertools
import random
import unittest

from mannerports.building import net_for
from mannerports.desk import Desk
from mannerports.errors import NoTable, TooMany
from mannerports.flatting import flat_of
from mannerports.joining import hidden, joined
from mannerports.leastchecker import lets_least
from mannerports.leasts import least_paper, least_table
from mannerports.likechecker import lets_alike
from mannerports.likening import likeness
from mannerports.machines import machine_has
from mannerports.netlines import net_lines, read_net
from mannerports.netmachines import machine_of
from mannerports.nets import right_net
from mannerports.putting import beside, called, hidden_net
from mannerports.tablelines import read_table, table_lines
from mannerports.tables import table_has
from mannerports.tabling import table_by, table_hidden, table_of, tables_joined
from mannerports.walks import has_row
from mannerports.watching import Watch
from mannerports.wishchecker import lets_wish
from mannerports.wishing import wish_paper
from kinds import chain
from oracle import every_row, rows_up_to
from samples import many_ports, random_flat, random_net_tabled
from systems import net_system, parting, table_system


def moment_word(moment):
    return ",".join(f"{port}:{thing}" for port, thing in moment) or "-"


def built_or_none(things, table):
    try:
        return net_for(things, table)[0]
    except NoTable:
        return None


def small_nets(chance, count, things=1):
    """Nets of up to three within one another for whose least tables nets can be built."""
    found = []
    while len(found) < count:
        net = random_net_tabled(chance, 1 + len(found) % 3, things)
        try:
            if built_or_none(things, least_table(table_of(flat_of(net)))):
                found.append(net)
        except TooMany:
            pass
    return found


class WholeTest(unittest.TestCase):
    def alike(self, one, other):
        word, paper = likeness(one, other)
        self.assertEqual(word, "alike", (one, other))
        self.assertIs(lets_alike(one, other, paper), True)

    def told(self, desk, name):
        return read_table(desk.say("lines " + name).split("\n"))

    def say(self, desk, *rows):
        for row in rows:
            self.assertEqual(desk.say(row), "ok", row)


class DeskTest(WholeTest):
    def test_nets_told_to_a_desk(self):
        chance = random.Random(291)
        for net in small_nets(chance, 24):
            desk = Desk()
            self.say(desk, "\n".join(["net n"] + net_lines(net)), "make t n", "least l t", f"build b {net[0]} l", "make u b",
                     "least m u")
            flat, machine, watch = flat_of(net), machine_of(net), Watch(net)
            tables = {name: self.told(desk, name) for name in "tlum"}
            self.assertEqual(tables["t"], table_of(flat))
            self.assertEqual(tables["l"], least_table(tables["t"]))
            self.assertEqual(tables["l"], tables["m"])
            for one, other in itertools.product("tlum", repeat=2):
                self.assertEqual(desk.say(f"alike {one} {other}"), "alike")
            rows = rows_up_to(net, 2)
            for row in every_row(net, 2):
                had = row in rows
                self.assertIs(has_row(flat, row), had)
                self.assertIs(machine_has(machine, row), had)
                for name, table in tables.items():
                    self.assertIs(table_has(table, row), had)
                    if row:
                        before = desk.say(" ".join(["may", name] + [moment_word(moment) for moment in row[:-1]])).split(" ")
                        self.assertIs(moment_word(row[-1]) in before, had)
            self.assertEqual(desk.say("may t"), " ".join(moment_word(moment) for moment in watch.may_come()))

    def test_along_a_row(self):
        chance = random.Random(292)
        for net in small_nets(chance, 12):
            desk, watch = Desk(), Watch(net)
            self.say(desk, "\n".join(["net n"] + net_lines(net)), "make t n", "least l t", f"build b {net[0]} l", "make u b")
            row = []
            for _ in range(8):
                moments = watch.may_come()
                words = " ".join(moment_word(moment) for moment in moments) or "none"
                for name in "tlu":
                    self.assertEqual(desk.say(" ".join(["may", name] + row)), words)
                moment = chance.choice(moments)
                watch.saw(moment)
                row.append(moment_word(moment))

    def test_wishes(self):
        chance = random.Random(293)
        words = set()
        for net in small_nets(chance, 18):
            desk = Desk()
            self.say(desk, "\n".join(["net n"] + net_lines(net)), "make t n", "least l t")
            for port, thing in itertools.product(net[1], range(3)):
                for name in "tl":
                    table = self.told(desk, name)
                    paper = wish_paper(table, (port, thing))
                    self.assertIs(lets_wish(table, (port, thing), paper), True)
                    answer = desk.say(f"wish {name} {port} {thing}").split(" ")
                    self.assertEqual(answer[0], paper[0])
                    words.add(answer[0])
        self.assertEqual(words, {"can", "waits"})


class TogetherTest(WholeTest):
    def test_beside_one_another(self):
        chance = random.Random(294)
        for _ in range(30):
            one, other = small_nets(chance, 2)
            nets = [one, other]
            # Those built for their least tables in their place.
            built = [built_or_none(net[0], least_table(table_of(flat_of(net)))) for net in nets]
            together = tables_joined(table_of(flat_of(one)), table_of(flat_of(other)))
            for first, second in ((one, other), (other, one), (built[0], other), (one, built[1]), (built[1], built[0])):
                net = beside(first, second)
                self.assertIs(right_net(net), True)
                table = table_of(flat_of(net))
                self.assertEqual(sorted(table[0]), sorted(together[0]))
                self.alike(table, together)
                self.alike(together, table_by(machine_of(net)))
                self.alike(together, table_by(joined(machine_of(first), machine_of(second))))

    def test_with_ports_hidden(self):
        chance = random.Random(295)
        for net in small_nets(chance, 30):
            table = table_of(flat_of(net))
            built = built_or_none(net[0], least_table(table))
            ports = tuple(chance.sample(net[1], chance.randint(0, len(net[1]))))
            left = table_hidden(table, ports)
            for one in (net, built):
                self.alike(left, table_of(flat_of(hidden_net(one, ports))))
                self.alike(left, table_by(machine_of(hidden_net(one, ports))))
                self.alike(left, table_by(hidden(machine_of(one), ports)))
                self.alike(left, table_hidden(table_of(flat_of(one)), ports))

    def test_beside_then_hidden(self):
        chance = random.Random(296)
        for number in range(20):
            one, other = [random_flat(chance, "abc", 3, 3, 1 + number % 2) for _ in range(2)]
            seen = sorted(set(one[1]) | set(other[1]))
            ports = tuple(chance.sample(seen, chance.randint(0, len(seen))))
            net = hidden_net(beside(one, other), ports)
            tables = table_hidden(tables_joined(table_of(one), table_of(other)), ports)
            machine = hidden(joined(machine_of(one), machine_of(other)), ports)
            self.alike(table_of(flat_of(net)), tables)
            self.alike(tables, table_by(machine))
            self.alike(least_table(tables), table_by(machine_of(net)))
            # A port hidden ahead that the other one hasn't.
            own = tuple(port for port in ports if port in one[1] and port not in other[1])
            ahead = beside(hidden_net(one, own), other)
            self.alike(table_of(flat_of(ahead)), table_hidden(tables_joined(table_of(one), table_of(other)), own))

    def test_called_otherwise_and_back(self):
        chance = random.Random(297)
        for net in small_nets(chance, 15):
            names = tuple(chance.sample(("x", "y", "z", "a", "b"), len(net[1])))
            back = called(called(flat_of(net), names), net[1])
            self.alike(table_of(flat_of(net)), table_of(flat_of(back)))

    def test_queues_of_built_places(self):
        # A place built of the four manners stands for a place wherever one does.
        place = (1, ("i", "o"), (("place", "i", "o", None),))
        built = net_for(1, table_of(place))[0]
        plainly = table_of((1, ("a", "d"), (
            ("place", "a", "b", None), ("place", "b", "c", None), ("place", "c", "d", None))))
        for first, second, third in itertools.product((place, built), repeat=3):
            queue = (1, ("a", "d"), (("net", first, ("a", "b")), ("net", second, ("b", "c")), ("net", third, ("c", "d"))))
            self.assertIs(right_net(queue), True)
            self.alike(plainly, table_of(flat_of(queue)))


class PapersTest(WholeTest):
    def test_papers_of_tables_of_nets(self):
        chance = random.Random(298)
        for net in small_nets(chance, 18):
            table = table_of(flat_of(net))
            self.assertIsNone(parting(table_system(table), net_system(net)))
            paper = least_paper(table)
            self.assertEqual(lets_least(table, paper), least_table(table)[1])
            # As it came out of it, whatever is made of it: the same least table.
            for other in (table_by(machine_of(net)), table_of(flat_of(flat_of(net))), read_table(table_lines(table)),
                          table_of(flat_of(read_net(net_lines(net))))):
                self.alike(table, other)
                self.assertEqual(least_table(other)[1:], least_table(table)[1:])

    def test_just_one_of_both(self):
        chance = random.Random(299)
        words = set()
        nets = [net for net in small_nets(chance, 40) if len(net[1]) == 1]
        for one, other in itertools.combinations(nets, 2):
            one, other = called(one, ("a",)), called(other, ("a",))
            tables = [table_of(flat_of(net)) for net in (one, other)]
            word, shown = likeness(*tables)
            words.add(word)
            self.assertEqual(word == "alike", parting(net_system(one), net_system(other)) is None)
            if word == "parted":
                self.assertIsNot(has_row(flat_of(one), shown), has_row(flat_of(other), shown))
        self.assertEqual(words, {"alike", "parted"})

    def test_what_was_told_is_taken_again_whatever_its_size(self):
        # A machine of more than 2,000 steps, and a row of more than 60 moments.
        places = (1, (), tuple(("place", "a" + port, "b" + port, None) for port in many_ports(7)))
        machine = machine_of(places)
        self.assertGreater(len(machine[4]), 2000)
        self.alike(table_by(machine), table_of(places))
        self.alike(least_table(table_of(chain(5, 0))), least_table(table_by(machine_of(chain(5, 0)))))
        line = (("a",), 300, tuple((k, (("a", 0),), k + 1) for k in range(299)))
        row = likeness(line, (("a",), 1, ((0, (("a", 0),), 0),)))[1]
        self.assertEqual(len(row), 300)
        self.assertIs(table_has(line, row), False)
        self.assertIs(has_row((1, ("a",), ()), row), True)
        self.assertIs(machine_has(machine_of((1, ("a",), ())), row), True)
        watch = Watch((1, ("a",), ()))
        for moment in row:
            watch.saw(moment)
        self.assertEqual(watch.row_seen(), row)


if __name__ == "__main__":
    unittest.main()
