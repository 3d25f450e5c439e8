"""Nets for tables.

A thing, the token, hops from place to place: the place that holds it tells at which stand the net is.
No place lets in and out at one moment, so each stand has two places, and each hop goes from one of the
first kind to one of the second or back: so a step from a stand to itself, too, has another place to go to.
At a port for each step the token passes when it is done; what is seen hangs on these ports.
"""

from mannerports.errors import NoTable
from mannerports.flatting import Namer
from mannerports.likening import likeness
from mannerports.meeting import all_met
from mannerports.tables import is_plain
from mannerports.tabling import ends_by_stand, table_of

MOST_BUILT_STANDS = 4
MOST_BUILT_STEPS = 10
TOKEN = 0


def net_for(things, table):
    """A tuple of a flat net with the rows of a table, and a likeness paper of both, or NoTable."""
    check_table(things, table)
    builder = Builder(things, table)
    builder.lay_places()
    for port in table[0]:
        builder.lay_seen(port)
    net = (things, table[0], tuple(builder.parts))
    word, paper = likeness(table, table_of(net))
    return (net, paper)


def check_table(things, table):
    """Refuse a table for which no net is built."""
    seen, many, steps = table
    if not is_plain(table):
        raise NoTable("plain")
    known = {step: True for step in steps}
    if not all([(stand, (), stand) in known for stand in range(many)]):
        raise NoTable("still")
    if not all([thing < things for begin, moment, end in steps for port, thing in moment]):
        raise NoTable("things")
    # Each stand has one still step.
    if many > MOST_BUILT_STANDS or len(steps) - many > MOST_BUILT_STEPS:
        raise NoTable("many")


def hops_of(table):
    """A pair: how many places the token comes to, and its hops (place, step of the table, place) by number."""
    ends = ends_by_stand(table, table[0])

    def hops_from(place):
        stand, turn = place
        return [((stand, moment, end), (end, 1 - turn)) for moment, end in ends[stand] if moment != ()]

    met, hops = all_met((0, 0), hops_from, None)
    return len(met), hops


class Builder:
    """Lays the parts of a net for a table."""

    def __init__(self, things, table):
        self.things = things
        self.namer = Namer(table[0])
        self.parts = []
        self.places_many, self.hops = hops_of(table)
        # A port for each hop, and one for each step, at which the token passes with either of its hops.
        self.hop_ports = [self.namer.fresh() for hop in self.hops]
        self.step_ports = {step: self.namer.fresh() for begin, step, end in self.hops}

    def lay_places(self):
        """Lay the places, and what hands the token on from one to another."""
        for number in range(self.places_many):
            into, out = self.namer.fresh(), self.namer.fresh()
            self.parts.append(("place", into, out, TOKEN if number == 0 else None))
            self.lay_merge(self.ports_with(2, number), into)
            self.lay_merge(self.ports_with(0, number), out)
        for step, port in self.step_ports.items():
            self.lay_merge(self.ports_with(1, step), port)

    def ports_with(self, at, what):
        """The ports of the hops that have this at 0, 1 or 2."""
        return [port for port, hop in zip(self.hop_ports, self.hops) if hop[at] == what]

    def lay_seen(self, seen_port):
        """Lay what lets pass at a seen port just what the steps have there."""
        ends = []
        for thing in range(self.things):
            passing = [port for step, port in self.step_ports.items() if (seen_port, thing) in step[1]]
            if passing:
                ends.append(self.lay_thing(passing, thing))
        self.lay_merge(ends, seen_port)

    def lay_thing(self, passing, thing):
        """Lay what lets a thing pass where one of these ports passes the token; tell at which port."""
        due, drawn, end = self.namer.fresh(), self.namer.fresh(), self.namer.fresh()
        self.lay_merge(passing, due)
        self.parts.append(("drain", due, drawn))
        self.parts.append(("only", drawn, end, (thing,)))
        return end

    def lay_merge(self, ins, out):
        """Lay that a port passes what just one of some others passes; of no others never anything."""
        if ins:
            self.parts.append(("merge", tuple(ins), out))
        else:
            self.parts.append(("only", out, self.namer.fresh(), ()))
