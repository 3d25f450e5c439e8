"""Rows and walks of flat nets: which stands come, and what is seen along the way."""

from mannerports.choosing import Chooser
from mannerports.meeting import MOST_STANDS, all_met
from mannerports.moments import MOST_MOMENTS, first_stand, helds_at, is_moment_of, part_at, stand_behind


def stands_met(flat):
    """All stands that come, as they come, or TooMany."""
    met, steps = met_in(flat)
    return met


def met_in(flat):
    """All stands that come, and the steps between their numbers by what is seen, or TooMany."""
    walker = Walker(flat)
    return all_met(first_stand(flat), lambda stand: walker.moves(stand), MOST_STANDS)


def after(flat, stands, moment):
    """The stands behind a moment of the seen ports, from some stands, each once."""
    return list(Walker(flat).ways(stands, moment))


def seen_next(flat, stands):
    """All moments of the seen ports that come from some stands, rising."""
    return Walker(flat).seen_from(stands)


def has_row(flat, row):
    """Whether a flat net has a row of its seen ports."""
    return breaks(flat, row) is None


def breaks(flat, row):
    """The number of the first moment with which a flat net has the row no more, or None."""
    gone = len(ways_along(flat, row)) - 1
    return None if gone == len(row) else gone


def walk_for(flat, row):
    """A walk whose parts of the seen ports are this row, or None."""
    layers = ways_along(flat, row)
    if len(layers) <= len(row):
        return None
    walk = []
    stand = list(layers[-1])[0]
    for layer in reversed(layers[1:]):
        stand, moment = layer[stand]
        walk.append(moment)
    return tuple(walk[::-1])


def ways_along(flat, row):
    """The first stand, and the ways by each moment of the row, as far as the net has it."""
    walker = Walker(flat)
    layers = [{first_stand(flat): None}]
    for moment in row:
        ways = walker.ways(list(layers[-1]), moment)
        if not ways:
            return layers
        layers.append(ways)
    return layers


class Walker:
    """Goes on from stands of a flat net by moments of its seen ports."""

    def __init__(self, flat):
        self.flat = flat
        self.chooser = Chooser(flat)
        self.known = {}
        self.gone = {}

    def moves(self, stand):
        """Of all moments that are let, rising, what is seen of each and the stand behind it, or TooMany."""
        moments = self.chooser.moments(helds_at(self.flat, stand), MOST_MOMENTS)
        return [(part_at(moment, self.flat[1]), stand_behind(self.flat, stand, moment)) for moment in moments]

    def seen_from(self, stands):
        """All moments of the seen ports that come from some stands, rising."""
        seen = []
        for stand in stands:
            # Kept, as a watch comes to the same stands again and again.
            if stand not in self.known:
                self.known[stand] = self.chooser.seen_moments(helds_at(self.flat, stand))
            seen.extend(self.known[stand])
        return sorted(set(seen))

    def ways(self, stands, moment):
        """Each stand behind a moment, as they come, with a pair that leads to it: stand and moment."""
        ways = {}
        # Asked ahead of what is kept: there True would be found as 1.
        if not is_moment_of(self.flat[0], self.flat[1], moment):
            return ways
        for stand in stands:
            for behind, whole in self.steps(stand, moment):
                if behind not in ways:
                    ways[behind] = (stand, whole)
        return ways

    def steps(self, stand, moment):
        """Pairs of each stand behind a moment from one stand, and a moment of all ports that leads there."""
        # Kept, as the same moments come from the same stands again and again along a row.
        if (stand, moment) not in self.gone:
            self.gone[(stand, moment)] = self.steps_anew(stand, moment)
        return self.gone[(stand, moment)]

    def steps_anew(self, stand, moment):
        """As steps, worked out."""
        behind = {}
        for whole in self.chooser.moments_seen_as(helds_at(self.flat, stand), moment):
            behind.setdefault(stand_behind(self.flat, stand, whole), whole)
        return list(behind.items())
