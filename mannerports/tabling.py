"""Tables of nets and of machines, tables put together, and tables with ports hidden."""

from mannerports.errors import TooMany
from mannerports.hiding import ports_left, ports_of_both
from mannerports.machines import moves_by, steps_by_place
from mannerports.meeting import MOST_STANDS, all_met
from mannerports.moments import part_at
from mannerports.nets import MOST_SEEN
from mannerports.walks import met_in


def table_of(flat):
    """The table of a flat net, or TooMany."""
    met, steps = met_in(flat)
    return (flat[1], len(met), tuple(steps))


def table_by(machine):
    """The table of a machine, or TooMany."""
    check_ports(machine[1])
    steps = steps_by_place(machine)
    return table_met(machine[1], machine[3], lambda stand: moves_by(steps.get(stand[0], []), stand))


def tables_joined(one, other):
    """A table with the rows of which both tables have their parts, or TooMany."""
    seen = ports_of_both(one[0], other[0])
    check_ports(seen)
    pairing = Pairing(one, other)
    return table_met(seen, (0, 0), lambda pair: pairing.moves(pair))


def table_hidden(table, ports):
    """A table with what is left of a table's rows without these ports, or NoJoin, TooMany."""
    left = ports_left(table[0], ports)
    steps = ends_by_stand(table, left)
    return table_met(left, 0, lambda stand: steps.get(stand, []))


def check_ports(ports):
    """Refuse more ports than a table can see."""
    if len(ports) > MOST_SEEN:
        raise TooMany("ports")


def table_met(seen, begin, moves):
    """The table of what comes from a begin, by its moves, pairs (moment, what is behind it), or TooMany."""
    met, steps = all_met(begin, moves, MOST_STANDS)
    return (seen, len(met), tuple(steps))


def ends_by_stand(table, ports):
    """For each stand of a table its steps as (part of the moment, to), a dict of lists."""
    ends = {}
    for begin, moment, end in table[2]:
        ends.setdefault(begin, []).append((part_at(moment, ports), end))
    return ends


class Pairing:
    """Tells the steps of two tables together, which agree at the ports that both see."""

    def __init__(self, one, other):
        self.common = [port for port in one[0] if port in other[0]]
        self.ones = ends_by_stand(one, one[0])
        self.others = {}
        for begin, moment, end in other[2]:
            key = (begin, part_at(moment, self.common))
            self.others.setdefault(key, []).append((moment, end))

    def moves(self, pair):
        """From a pair of stands all moments of both, each with the pair of stands behind it."""
        stand, other_stand = pair
        moves = []
        for moment, end in self.ones.get(stand, []):
            for other_moment, other_end in self.others.get((other_stand, part_at(moment, self.common)), []):
                moves.append((tuple(sorted(set(moment + other_moment))), (end, other_end)))
        return moves
