"""Machines joined, and machines with ports hidden."""

from mannerports.errors import NoJoin
from mannerports.gluing import ties_glued, ties_moved, ties_without
from mannerports.hiding import ports_left
from mannerports.machines import steps_by_place
from mannerports.meeting import all_met


def joined(one, other):
    """A machine with the rows of which both machines have their parts, or NoJoin."""
    if one[0] != other[0]:
        raise NoJoin("things")
    joiner = Joiner(one, other)
    (place, held), (other_place, other_held) = one[3], other[3]
    # Its places are the pairs of places that come, by their numbers.
    pairs, steps = all_met((place, other_place), lambda pair: joiner.moves(pair), None)
    ports = tuple(sorted(set(one[1] + other[1])))
    as_steps = tuple([(begin, passing, ties, end) for begin, (passing, ties), end in steps])
    return (one[0], ports, one[2] + other[2], (0, held + other_held), as_steps)


def hidden(machine, ports):
    """A machine with what is left of a machine's rows without these ports, or NoJoin."""
    things, own, boxes, begin, steps = machine
    left = ports_left(own, ports)
    # Kept in a dict: steps that differed by hidden ports alone may be alike now.
    kept = {step_without(step, ports): True for step in steps}
    return (things, left, boxes, begin, tuple(kept))


def step_without(step, ports):
    """A step in which these ports are not seen."""
    begin, passing, ties, end = step
    return (begin, tuple([port for port in passing if port not in ports]), ties_without(ties, ports), end)


class Joiner:
    """Tells what two machines do together: a step of each, or a step of one while the other stays."""

    def __init__(self, one, other):
        self.common = [port for port in one[1] if port in other[1]]
        self.ones = steps_by_place(one)
        # By the common ports, too: just the same of these pass in both.
        self.others = {}
        for begin, passing, ties, end in other[4]:
            key = (begin, self.common_of(passing))
            self.others.setdefault(key, []).append((passing, ties_moved(ties, one[2]), end))

    def moves(self, pair):
        """Of a pair of places all ((passing, ties), pair of places behind it)."""
        place, other_place = pair
        moves = []
        for begin, passing, ties, end in self.ones.get(place, []) + [(place, (), (), place)]:
            for other_passing, other_ties, other_end in self.others_with(other_place, self.common_of(passing)):
                glued = ties_glued(ties + other_ties)
                if glued is not None:
                    ports = tuple(sorted(set(passing + other_passing)))
                    moves.append(((ports, glued), (end, other_end)))
        # Where both stay nothing is done; the still moment can come anyway.
        return [move for move in moves if move != (((), ()), pair)]

    def others_with(self, place, common):
        """What the other machine can do at a place while just these common ports pass."""
        stays = [] if common else [((), (), place)]
        return self.others.get((place, common), []) + stays

    def common_of(self, passing):
        """The passing ports that both machines have."""
        return tuple([port for port in passing if port in self.common])
