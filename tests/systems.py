"""Nets, machines and tables as systems of states and steps, worked out plainly by the words of the document.

With these it is told whether two of them have the same rows, along all moments.
"""

import itertools

import oracle


class System:
    """A begin, and steps(state): pairs of a moment and a state to which it leads."""

    def __init__(self, begin, steps):
        self.begin = begin
        self.steps = steps
        self.known = {}

    def leads(self, state):
        """For each moment the states to which it leads, a dict of sets."""
        if state not in self.known:
            found = {}
            for moment, behind in self.steps(state):
                found.setdefault(moment, set()).add(behind)
            self.known[state] = found
        return self.known[state]

    def going_on(self, states):
        """For each moment that goes on from one of the states the set of states behind it."""
        found = {}
        for state in states:
            for moment, behind in self.leads(state).items():
                found.setdefault(moment, set()).update(behind)
        return {moment: frozenset(behind) for moment, behind in found.items()}

    def along(self, row):
        """For the begin and each moment of a row, as far as it is had, the states behind it."""
        layers = [frozenset([self.begin])]
        for moment in row:
            behind = self.going_on(layers[-1]).get(moment)
            if not behind:
                break
            layers.append(behind)
        return layers

    def has(self, row):
        return len(self.along(row)) == len(row) + 1


def net_system(net):
    """A net, flat or not, by its seen ports."""
    def steps(state):
        return [(oracle.part_of(moment, net[1]), behind) for moment, behind in oracle.steps(net, state)]
    return System(oracle.begin(net), steps)


def flat_system(flat):
    """A flat net by its seen ports, its states its stands."""
    def steps(stand):
        return [(oracle.part_of(moment, flat[1]), behind) for moment, behind in oracle.flat_steps(flat, stand)]
    return System(oracle.as_stand(flat, oracle.begin(flat)), steps)


def part_system(things, part):
    """A part alone, all its ports seen, its states what it holds."""
    return System(oracle.held_at_first(part), lambda held: list(oracle.allowed(part, held, things).items()))


def machine_system(machine):
    return System(machine[3], lambda stand: machine_moves(machine, stand))


def machine_moves(machine, stand):
    """The moves from a machine's stand, by the words of the document."""
    place, held = stand
    found = [((), stand)]
    for begin, passing, ties, end in machine[4]:
        if begin != place:
            continue
        for choice in itertools.product(*[told for spots, told in ties]):
            values = {spot: thing for (spots, told), thing in zip(ties, choice) for spot in spots}
            if any(word == "box" and held[at] != thing for (word, at), thing in values.items()):
                continue
            moment = tuple(sorted((at, thing) for (word, at), thing in values.items() if word == "port"))
            kept = [None if ("box", at) in values else each for at, each in enumerate(held)]
            behind = (end, tuple(values.get(("next", at), each) for at, each in enumerate(kept)))
            if (moment, behind) not in found:
                found.append((moment, behind))
    return found


def table_system(table):
    def steps(stand):
        return [(moment, end) for begin, moment, end in table[2] if begin == stand]
    return System(0, steps)


def both(one, ports, other, other_ports):
    """The rows of which the one has the part of its ports and the other one the part of its own."""
    common = set(ports) & set(other_ports)

    def steps(state):
        found = []
        for moment, behind in one.steps(state[0]):
            for other_moment, other_behind in other.steps(state[1]):
                if oracle.part_of(moment, common) == oracle.part_of(other_moment, common):
                    found.append((tuple(sorted(set(moment) | set(other_moment))), (behind, other_behind)))
        return found
    return System((one.begin, other.begin), steps)


def hiding(one, ports):
    """The rows that are left where these ports are left out."""
    def steps(state):
        found = []
        for moment, behind in one.steps(state):
            found.append((tuple(pair for pair in moment if pair[0] not in ports), behind))
        return found
    return System(one.begin, steps)


def renaming(one, names):
    """The rows with the ports called by a dict of names."""
    def steps(state):
        found = []
        for moment, behind in one.steps(state):
            found.append((tuple(sorted((names[port], thing) for port, thing in moment)), behind))
        return found
    return System(one.begin, steps)


def parting(one, other, most=20000):
    """A shortest row that just one of two systems has, or None: all rows are looked at."""
    begin = (frozenset([one.begin]), frozenset([other.begin]))
    known = {begin}
    waiting = [(begin, ())]
    while waiting:
        behind_these = []
        for (ones, others), row in waiting:
            after, other_after = one.going_on(ones), other.going_on(others)
            for moment in sorted(set(after) ^ set(other_after)):
                return row + (moment,)
            for moment in after:
                pair = (after[moment], other_after[moment])
                if pair not in known:
                    known.add(pair)
                    behind_these.append((pair, row + (moment,)))
        waiting = behind_these
        if len(known) > most:
            raise AssertionError("too many for all rows to be looked at")
    return None


def some_row(chance, system, length):
    """A row of a system, gone by chance, perhaps shorter where nothing goes on."""
    row = []
    state = system.begin
    for _ in range(length):
        steps = system.steps(state)
        if not steps:
            break
        moment, state = chance.choice(steps)
        row.append(moment)
    return tuple(row)


def bent_rows(chance, row, ports, things):
    """A row with a moment left out, put in, twice, two turned about, a thing or a port otherwise."""
    at = chance.randrange(len(row))
    moments = oracle.every_moment(chance.sample(ports, min(2, len(ports))), things)
    yield row[:at] + row[at + 1:]
    yield row[:at] + (chance.choice(moments),) + row[at:]
    yield row[:at] + (row[at],) + row[at:]
    yield row[:at] + row[at:at + 2][::-1] + row[at + 2:]
    for number, moment in enumerate(row):
        if moment:
            (port, thing), *others = moment
            yield row[:number] + (tuple([(port, (thing + 1) % 3)] + others),) + row[number + 1:]
            yield row[:number] + (tuple(others),) + row[number + 1:]
            other = chance.choice(ports)
            if other not in dict(moment):
                yield row[:number] + (tuple(sorted([(other, thing)] + others)),) + row[number + 1:]
            break
