"""The machine of a net: the machines of its parts, all at one place, glued at their ports."""

from mannerports.choosing import Chooser
from mannerports.errors import TooMany
from mannerports.flatting import flat_of
from mannerports.gluing import ties_glued, ties_moved, ties_without
from mannerports.meeting import MOST_STANDS, all_met
from mannerports.moments import MOST_MOMENTS, first_stand, helds_at, stand_behind
from mannerports.nets import HOLDING
from mannerports.partmachines import part_machine


def machine_of(net):
    """A machine with just the rows of a net, flat or not."""
    flat = flat_of(net)
    gluer = Gluer(flat)
    # A dict, as steps that differ by hidden ports alone may be alike.
    steps = {}
    for shape in shapes_of(flat):
        passing = tuple([port for port in shape if port in flat[1]])
        ties = gluer.ties(shape)
        # A step that neither passes nor ties anything would be as the still moment.
        if ties is not None and (passing or ties):
            steps[(0, passing, ties, 0)] = True
    return (flat[0], tuple(sorted(flat[1])), len(gluer.held), (0, gluer.held), tuple(steps))


def shapes_of(flat):
    """Shapes, rising tuples of the ports that pass, among which are those of all moments that come."""
    try:
        return shapes_met(flat, MOST_STANDS, MOST_MOMENTS)
    except TooMany:
        # Beyond the bounds: perhaps some that never come, but things don't multiply.
        return shapes_met(of_one_thing(flat), None, None)


def shapes_met(flat, most_stands, most_moments):
    """The shapes of all moments that come, rising, or TooMany (None: no bound)."""
    chooser = Chooser(flat)
    met, steps = all_met(
        first_stand(flat), lambda stand: shape_moves(flat, chooser, stand, most_moments), most_stands)
    return sorted({shape for begin, shape, end in steps})


def shape_moves(flat, chooser, stand, most):
    """The shapes of all moments at a stand, each with the stand behind it."""
    moments = chooser.moments(helds_at(flat, stand), most)
    return [(tuple([port for port, thing in moment]), stand_behind(flat, stand, moment)) for moment in moments]


def of_one_thing(flat):
    """A flat net with all things taken as one: it has each shape that comes, perhaps more."""
    things, seen, parts = flat
    return (1, seen, tuple([part_of_one_thing(part) for part in parts]))


def part_of_one_thing(part):
    """A part of a flat net with all things taken as one."""
    if part[0] in HOLDING:
        return part[:3] + (None if part[3] is None else 0,)
    if part[0] == "only":
        return part[:3] + ((0,) if part[3] else (),)
    return part


class Gluer:
    """Glues what a net's parts do; held is what the boxes of all their machines hold at first."""

    def __init__(self, flat):
        self.every = tuple(range(flat[0]))
        self.seen = flat[1]
        self.held = ()
        # For each part its ports and, by those that pass, the ties of its machine's step.
        self.shares = []
        for part in flat[2]:
            things, ports, boxes, begin, steps = part_machine(flat[0], part)
            by_ports = {passing: ties_moved(ties, len(self.held)) for place, passing, ties, end in steps}
            self.shares.append((ports, by_ports))
            self.held += begin[1]

    def ties(self, shape):
        """The ties of the step with which a shape passes, or None where no thing can."""
        # A seen port is tied to any thing, as perhaps no part has it.
        ties = [((("port", port),), self.every) for port in shape if port in self.seen]
        for ports, by_ports in self.shares:
            passing = tuple([port for port in shape if port in ports])
            if passing:
                ties.extend(by_ports[passing])
        glued = ties_glued(ties)
        if glued is None:
            return None
        return ties_without(glued, [port for port in shape if port not in self.seen])
