"""Choices that agree: all that can pass at the ports of a flat net at one moment.

What can pass is kept as one number with bits for each port: one for nothing and one for each thing.
A choice has one bit of each of its ports; what is ruled out has its bit cleared. A table is a pair
of the bits of a part's ports and the list of the part's choices, of which one is to be made.
"""

from mannerports.errors import TooMany
from mannerports.manners import choices_of, what_passes
from mannerports.nets import ports_in, ports_of


def bits_for(ports, things):
    """A dict with a bit for each port and what can pass there, a thing or None."""
    bits = {}
    for port in ports:
        for thing in what_passes(things):
            bits[(port, thing)] = 1 << len(bits)
    return bits


def parts_joined(owns):
    """The numbers of parts, by the bits of their ports, in groups that share no port."""
    groups = []
    for number, own in enumerate(owns):
        touched = [group for group in groups if group[0] & own]
        groups = [group for group in groups if not group[0] & own]
        numbers = []
        for bits, others in touched:
            own |= bits
            numbers.extend(others)
        groups.append((own, numbers + [number]))
    return groups


def touched_by(tables, gone):
    """The numbers of the tables with ports that have lost bits."""
    return [number for number, (own, choices) in enumerate(tables) if own & gone]


def settled(tables, bits, due):
    """The bits without those that no choice of some table has any more; 0 where a table has none.

    The tables whose numbers are due are looked at, and those that lose something by that.
    """
    waiting = list(due)
    while waiting:
        own, choices = tables[waiting.pop()]
        left = 0
        for choice in choices:
            if choice & bits == choice:
                left |= choice
        if left == 0:
            return 0
        gone = (bits & own) ^ left
        if gone:
            bits ^= gone
            waiting.extend([number for number in touched_by(tables, gone) if number not in waiting])
    return bits


def agreed(tables, begin, most):
    """All ways to make one choice of each table such that they agree, among the bits of begin.

    TooMany where there are more than most (None: no bound). Behind each choice the other tables
    are narrowed, so that hardly a way is followed that leads nowhere.
    """
    found = []
    waiting = [(settled(tables, begin, list(range(len(tables)))), 0)]
    while waiting:
        bits, number = waiting.pop()
        if bits == 0:
            continue
        if number == len(tables):
            found.append(bits)
            if most is not None and len(found) > most:
                raise TooMany("moments")
            continue
        own, choices = tables[number]
        for choice in choices:
            if choice & bits == choice:
                narrowed = (bits & ~own) | choice
                due = touched_by(tables, bits ^ narrowed)
                waiting.append((settled(tables, narrowed, due), number + 1))
    return found


def put_together(groups, most):
    """Each choice of one from each group, TooMany where there are more than most (None: no bound)."""
    together = [0]
    for group in groups:
        if most is not None and len(together) * len(group) > most:
            raise TooMany("moments")
        together = [one | other for one in together for other in group]
    return together


class Chooser:
    """Tells the moments of a flat net; helds has for each of its parts what it holds."""

    def __init__(self, flat):
        things, seen, parts = flat
        self.things = things
        self.seen = seen
        self.parts = parts
        self.bits = bits_for(ports_in(flat), things)
        self.pairs = [(bit, pair) for pair, bit in self.bits.items() if pair[1] is not None]
        self.owns = [self.bits_of(ports_of(part)) for part in parts]
        self.groups = parts_joined(self.owns)
        # Seen ports that no part has; whatever passes there agrees with all.
        self.free = [port for port in seen if not any([self.bits_of((port,)) & own for own in self.owns])]
        self.known = {}

    def moments(self, helds, most):
        """All moments that are let, rising; TooMany where there are more than most."""
        groups = self.choices_by_group(helds, sum(self.bits.values()), most)
        return self.rising_moments(put_together(groups, most))

    def moments_seen_as(self, helds, moment):
        """All moments that are let whose part of the seen ports is this one, rising."""
        passing = dict(moment)
        begin = sum(self.bits.values())
        for port in self.seen:
            begin = (begin & ~self.bits_of((port,))) | self.bits[(port, passing.get(port))]
        return self.rising_moments(put_together(self.choices_by_group(helds, begin, None), None))

    def seen_moments(self, helds):
        """The parts of the seen ports of all moments that are let, rising, each once."""
        seen = self.bits_of(self.seen)
        groups = self.choices_by_group(helds, sum(self.bits.values()), None)
        # Cut down group by group: what is hidden must not multiply.
        cut = [sorted({bits & seen for bits in group}) for group in groups]
        return self.rising_moments(put_together(cut, None))

    def choices_by_group(self, helds, begin, most):
        """For each group of joined parts, and each free port, what it lets among the bits of begin."""
        groups = []
        for own, numbers in self.groups:
            tables = [(self.owns[number], self.choices(number, helds[number])) for number in numbers]
            groups.append(agreed(tables, begin & own, most))
        for port in self.free:
            each = [self.bits[(port, thing)] for thing in what_passes(self.things)]
            groups.append([bit for bit in each if bit & begin])
        return groups

    def choices(self, number, held):
        """The choices of the part of this number, as bits."""
        if (number, held) not in self.known:
            part = self.parts[number]
            ports = ports_of(part)
            self.known[(number, held)] = [
                sum([self.bits[pair] for pair in zip(ports, choice)])
                for choice in choices_of(self.things, part, held)
            ]
        return self.known[(number, held)]

    def bits_of(self, ports):
        """All bits of some ports, unlike."""
        return sum([self.bits[(port, thing)] for port in ports for thing in what_passes(self.things)])

    def rising_moments(self, found):
        """The moments that these bits tell, rising."""
        return sorted([tuple([pair for bit, pair in self.pairs if bit & bits]) for bits in found])
