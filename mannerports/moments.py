"""Moments of flat nets: what is let at a stand, and where it leads."""

from mannerports.choosing import Chooser
from mannerports.errors import NoMoment
from mannerports.manners import held_then, lets
from mannerports.nets import HOLDING, is_held, is_thing, ports_in

MOST_MOMENTS = 2000


def first_stand(flat):
    """What the parts of a flat net hold at first."""
    return tuple([part[3] for part in holding_parts(flat)])


def is_stand(flat, thing):
    """Whether any plain thing is a stand of a flat net."""
    if not isinstance(thing, tuple) or len(thing) != len(holding_parts(flat)):
        return False
    return all([is_held(flat[0], held) for held in thing])


def is_moment(flat, thing):
    """Whether any plain thing is a moment of the ports of a flat net."""
    return is_moment_of(flat[0], ports_in(flat), thing)


def led(flat, stand, moment):
    """The stand to which a moment leads, or NoMoment with the first part that doesn't let it."""
    for number, (part, held) in enumerate(zip(flat[2], helds_at(flat, stand))):
        if not lets(part, held, moment):
            raise NoMoment(number)
    return stand_behind(flat, stand, moment)


def moments_at(flat, stand):
    """All moments that a flat net lets at a stand, rising, or TooMany."""
    return Chooser(flat).moments(helds_at(flat, stand), MOST_MOMENTS)


def holding_parts(flat):
    """The parts of a flat net that can hold something, in order."""
    return [part for part in flat[2] if part[0] in HOLDING]


def helds_at(flat, stand):
    """For each part of a flat net what it holds at a stand, None of those that can't hold."""
    helds = []
    many = 0
    for part in flat[2]:
        if part[0] in HOLDING:
            helds.append(stand[many])
            many += 1
        else:
            helds.append(None)
    return helds


def stand_behind(flat, stand, moment):
    """The stand to which a moment leads that is let."""
    passing = dict(moment)
    return tuple([
        held_then(part, held, passing.get(part[1]), passing.get(part[2]))
        for part, held in zip(holding_parts(flat), stand)
    ])


def part_at(moment, ports):
    """A moment's part of these ports."""
    return tuple([pair for pair in moment if pair[0] in ports])


def is_moment_of(things, ports, thing):
    """Whether any plain thing is a moment of these ports, of so many things."""
    if not isinstance(thing, tuple):
        return False
    # No port is called by less.
    ahead = ""
    for pair in thing:
        # Rising is asked of ports alone: other things may be none that can be compared.
        if not is_passing(things, ports, pair) or pair[0] <= ahead:
            return False
        ahead = pair[0]
    return True


def is_passing(things, ports, pair):
    """Whether any plain thing is a pair of one of these ports and a thing of so many."""
    if not isinstance(pair, tuple) or len(pair) != 2:
        return False
    return pair[0] in ports and is_thing(things, pair[1])
