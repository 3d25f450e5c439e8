"""Machines with boxes: which things are such ones, how their steps are done, what rows they have."""

from mannerports.names import are_rising_ports, is_port
from mannerports.nets import is_held, is_things, is_told
from mannerports.plain import is_below, is_from_0, is_rising

BOX_WORDS = ("box", "next")


def is_machine(thing):
    """Whether any plain thing is a MACHINE."""
    if not isinstance(thing, tuple) or len(thing) != 5:
        return False
    things, ports, boxes, begin, steps = thing
    if not is_things(things) or not are_rising_ports(ports) or not is_from_0(boxes):
        return False
    if not is_begin(things, boxes, begin) or not isinstance(steps, tuple):
        return False
    if not all([is_step(things, ports, boxes, step) for step in steps]):
        return False
    return len(set(steps)) == len(steps)


def moves_from(machine, stand):
    """All moves from a stand of a machine: a list of pairs (moment, stand)."""
    return moves_by([step for step in machine[4] if step[0] == stand[0]], stand)


def machine_has(machine, row):
    """Whether a machine has a row of its ports."""
    goer = Goer(machine)
    stands = [machine[3]]
    for moment in row:
        behind = {}
        for stand in stands:
            for each in goer.behind(stand, moment):
                behind[each] = True
        stands = list(behind)
    return len(stands) > 0


def is_begin(things, boxes, thing):
    """Whether any plain thing is a pair of a place and what so many boxes hold."""
    if not isinstance(thing, tuple) or len(thing) != 2:
        return False
    place, held = thing
    if not is_from_0(place) or not isinstance(held, tuple) or len(held) != boxes:
        return False
    return all([is_held(things, each) for each in held])


def is_step(things, ports, boxes, thing):
    """Whether any plain thing is a STEP of a machine of these."""
    if not isinstance(thing, tuple) or len(thing) != 4:
        return False
    begin, passing, ties, end = thing
    if not is_from_0(begin) or not is_from_0(end) or not isinstance(ties, tuple):
        return False
    if not are_rising_ports(passing) or not all([port in ports for port in passing]):
        return False
    if not all([is_tie(things, boxes, tie) for tie in ties]):
        return False
    spots = [spot for tie in ties for spot in tie[0]]
    if len(set(spots)) < len(spots):
        return False
    return sorted([at for word, at in spots if word == "port"]) == list(passing)


def is_tie(things, boxes, thing):
    """Whether any plain thing is a TIE of a machine of these, whatever ports pass."""
    if not isinstance(thing, tuple) or len(thing) != 2:
        return False
    spots, told = thing
    # Rising is asked of spots alone: other things may be none that can be compared.
    if not isinstance(spots, tuple) or not all([is_spot(boxes, spot) for spot in spots]):
        return False
    return len(spots) > 0 and is_rising(spots) and is_told(things, told) and len(told) > 0


def is_spot(boxes, thing):
    """Whether any plain thing is a spot: one of so many boxes, what it is to hold, or any port."""
    if not isinstance(thing, tuple) or len(thing) != 2:
        return False
    word, at = thing
    if word == "port":
        return is_port(at)
    return word in BOX_WORDS and is_below(boxes, at)


def things_for(tie, held, passing):
    """The told things that all spots of a tie can have, rising.

    passing has the things that pass at ports; at a port that it hasn't any may pass.
    """
    spots, left = tie
    for word, at in spots:
        if word == "box":
            left = [thing for thing in left if thing == held[at]]
        elif word == "port" and at in passing:
            left = [thing for thing in left if thing == passing[at]]
    return left


def doings(step, held, passing):
    """The things of a step's ties, a tuple for each way to do it, rising; passing as in things_for."""
    choices = []
    for tie in step[2]:
        choice = things_for(tie, held, passing)
        # Ahead of all ways: what the other ties can have must not multiply for nothing.
        if not choice:
            return []
        choices.append(choice)
    ways = [()]
    for choice in choices:
        ways = [way + (thing,) for way in ways for thing in choice]
    return ways


def moment_of(step, way):
    """The moment with which a step is done by the things of its ties."""
    pairs = []
    for (spots, told), thing in zip(step[2], way):
        pairs.extend([(at, thing) for word, at in spots if word == "port"])
    return tuple(sorted(pairs))


def stand_by(step, held, way):
    """The stand behind a step that is done by the things of its ties."""
    behind = list(held)
    # First what goes out of all boxes, as a box may be in one tie and what it is to hold in another.
    for spots, told in step[2]:
        for word, at in spots:
            if word == "box":
                behind[at] = None
    for (spots, told), thing in zip(step[2], way):
        for word, at in spots:
            if word == "next":
                behind[at] = thing
    return (step[3], tuple(behind))


def steps_by_place(machine):
    """For each place from which steps of a machine go these steps, a dict of lists."""
    steps = {}
    for step in machine[4]:
        steps.setdefault(step[0], []).append(step)
    return steps


def moves_by(steps, stand):
    """The still move from a stand to itself, then those by these steps, which go from its place; each once."""
    held = stand[1]
    moves = {((), stand): True}
    for step in steps:
        for way in doings(step, held, {}):
            moves[(moment_of(step, way), stand_by(step, held, way))] = True
    return list(moves)


class Goer:
    """Goes on from stands of a machine by moments of its ports."""

    def __init__(self, machine):
        self.by_ports = {}
        for step in machine[4]:
            self.by_ports.setdefault((step[0], step[1]), []).append(step)
        self.gone = {}

    def behind(self, stand, moment):
        """The stands to which a moment leads from a stand, each once."""
        # Kept, as the same moments come from the same stands again and again along a row.
        if (stand, moment) not in self.gone:
            self.gone[(stand, moment)] = self.behind_anew(stand, moment)
        return self.gone[(stand, moment)]

    def behind_anew(self, stand, moment):
        """As behind, worked out."""
        place, held = stand
        passing = dict(moment)
        behind = {}
        if moment == ():
            behind[stand] = True
        for step in self.by_ports.get((place, tuple(passing)), []):
            for way in doings(step, held, passing):
                behind[stand_by(step, held, way)] = True
        return list(behind)
