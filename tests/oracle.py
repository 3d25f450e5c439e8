"""What nets let pass, worked out plainly by the words of the document, every choice looked at."""

import functools
import itertools


def allowed(part, held, things):
    """What a part lets at its own ports: for each such moment what it holds behind it."""
    word, a, b = part[:3]
    each = range(things)
    if word == "both":
        found = [({}, None)] + [({a: x, b: x}, None) for x in each]
    elif word == "only":
        found = [({}, None)] + [({a: x, b: x}, None) for x in part[3]]
    elif word == "loose":
        found = [({}, None)] + [({a: x}, None) for x in each] + [({a: x, b: x}, None) for x in each]
    elif word == "drain":
        found = [({}, None)] + [({a: x, b: y}, None) for x in each for y in each]
    elif word == "either":
        found = [({}, None)] + [({a: x}, None) for x in each] + [({b: x}, None) for x in each]
    elif word in ("place", "last") and held is None:
        found = [({}, None)] + [({a: x}, x) for x in each]
    elif word == "place":
        found = [({}, held), ({b: held}, None)]
    elif word == "last":
        found = [({}, held), ({b: held}, held)] + [({a: x}, x) for x in each] + [({a: x, b: held}, x) for x in each]
    elif word == "copy":
        found = [({}, None)] + [({port: x for port in (a,) + b}, None) for x in each]
    elif word == "merge":
        found = [({}, None)] + [({port: x, b: x}, None) for x in each for port in a]
    return {as_moment(passing): behind for passing, behind in found}


def as_moment(passing):
    return tuple(sorted(passing.items()))


def part_of(moment, ports):
    return tuple(pair for pair in moment if pair[0] in ports)


def ports_of(part):
    if part[0] == "copy":
        return (part[1],) + part[2]
    if part[0] == "merge":
        return part[1] + (part[2],)
    if part[0] == "net":
        return part[2]
    return part[1:3]


def all_ports(net):
    return sorted(set(net[1]).union(*[ports_of(part) for part in net[2]]))


def every_moment(ports, things):
    """All choices of nothing or a thing for each port, as moments, rising."""
    ports = sorted(ports)
    found = []
    for choice in itertools.product([None] + list(range(things)), repeat=len(ports)):
        found.append(tuple(pair for pair in zip(ports, choice) if pair[1] is not None))
    return sorted(found)


def begin(net):
    """What each part of a net has at first: what it holds, a net within its own begin."""
    return tuple(begin(part[1]) if part[0] == "net" else held_at_first(part) for part in net[2])


def held_at_first(part):
    return part[3] if part[0] in ("place", "last") else None


def part_leads(part, state, things, moment):
    """To what a part's state can lead with its part of a moment, a list."""
    own = part_of(moment, ports_of(part))
    if part[0] != "net":
        table = allowed(part, state, things)
        return [table[own]] if own in table else []
    return net_leads(part, state).get(own, [])


@functools.lru_cache(maxsize=None)
def net_leads(part, state):
    """Of a net within, for each moment of its told ports to what its state can lead, a dict of lists."""
    told = dict(zip(part[1][1], part[2]))
    found = {}
    for inner, behind in steps(part[1], state):
        own = tuple(sorted((told[port], x) for port, x in inner if port in told))
        found.setdefault(own, []).append(behind)
    return {own: list(dict.fromkeys(behind)) for own, behind in found.items()}


@functools.lru_cache(maxsize=None)
def steps(net, state):
    """All pairs of a moment of a net's ports and a state to which it can lead, by rising moments."""
    found = []
    for moment in every_moment(all_ports(net), net[0]):
        leads = []
        for part, held in zip(net[2], state):
            leads.append(part_leads(part, held, net[0], moment))
            if not leads[-1]:
                break
        if len(leads) == len(state):
            found.extend((moment, behind) for behind in dict.fromkeys(itertools.product(*leads)))
    return found


def whole_state(flat, stand):
    """A stand, with None for the parts that hold nothing."""
    left = list(stand)
    return tuple(left.pop(0) if part[0] in ("place", "last") else None for part in flat[2])


def as_stand(flat, state):
    return tuple(held for part, held in zip(flat[2], state) if part[0] in ("place", "last"))


def flat_steps(flat, stand):
    """Of a flat net's stand the pairs of a moment and the stand to which it leads, by rising moments."""
    return [(moment, as_stand(flat, state)) for moment, state in steps(flat, whole_state(flat, stand))]


def stands_by_words(flat):
    """The stands that come, by the words of the document."""
    met = [as_stand(flat, begin(flat))]
    for stand in met:
        for moment, behind in flat_steps(flat, stand):
            if behind not in met:
                met.append(behind)
    return met


def rows_up_to(net, length):
    """The rows of a net, flat or not, of at most so many moments, a set."""
    layer = {(): {begin(net)}}
    rows = {()}
    for _ in range(length):
        grown = {}
        for row, states in layer.items():
            for state in states:
                for moment, behind in steps(net, state):
                    grown.setdefault(row + (part_of(moment, net[1]),), set()).add(behind)
        rows |= set(grown)
        layer = grown
    return rows


def every_row(net, length):
    """All rows of moments of a net's seen ports, of at most so many moments."""
    moments = every_moment(net[1], net[0])
    return [row for many in range(length + 1) for row in itertools.product(moments, repeat=many)]


def walk_breaks(flat, walk):
    """The number of the first moment of a walk that is not let, or None."""
    stand = as_stand(flat, begin(flat))
    for number, moment in enumerate(walk):
        state = whole_state(flat, stand)
        leads = [part_leads(part, held, flat[0], moment) for part, held in zip(flat[2], state)]
        if not all(leads):
            return number
        stand = as_stand(flat, tuple(lead[0] for lead in leads))
    return None
