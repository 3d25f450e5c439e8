"""PARTs and NETs: which things are such ones, and what ports they have."""

from mannerports.errors import NoNet
from mannerports.names import are_unlike_ports
from mannerports.plain import is_below, is_rising, is_whole

MOST_THINGS = 3
MOST_SEEN = 6
MOST_ENDS = 12
MOST_DEEP = 4
MOST_PARTS = 120

TWO_PORTS_ALONE = ("both", "loose", "drain", "either")
HOLDING = ("place", "last")


def is_things(thing):
    """Whether any plain thing is a net's number of things."""
    return is_whole(thing) and 1 <= thing <= MOST_THINGS


def is_seen(thing):
    """Whether any plain thing can be the seen ports of a net."""
    return are_unlike_ports(thing) and len(thing) <= MOST_SEEN


def is_part(things, thing):
    """Whether any plain thing is a PART of so many things."""
    if has_within_shape(thing):
        return is_net(thing[1]) and fits_within(things, thing)
    return is_flat_part(things, thing)


def is_net(thing):
    """Whether any plain thing is a NET."""
    try:
        return right_net(thing)
    except NoNet:
        return False


def right_net(thing):
    """True where any plain thing is a NET, else NoNet."""
    check_net(thing, ())
    if parts_in_all(thing) > MOST_PARTS:
        raise NoNet("many", ())
    return True


def ports_of(part):
    """The ports of a part, as they stand in it."""
    if part[0] == "copy":
        return (part[1],) + part[2]
    if part[0] == "merge":
        return part[1] + (part[2],)
    if part[0] == "net":
        return part[2]
    return part[1:3]


def ports_in(net):
    """All ports of a net, rising."""
    ports = list(net[1])
    for part in net[2]:
        ports.extend(ports_of(part))
    return tuple(sorted(set(ports)))


def hidden_in(net):
    """The ports of a net that are not seen, rising."""
    return tuple([port for port in ports_in(net) if port not in net[1]])


def is_thing(things, thing):
    """Whether any plain thing is a THING of so many."""
    return is_below(things, thing)


def is_held(things, thing):
    """Whether any plain thing is what a part can hold."""
    return thing is None or is_thing(things, thing)


def is_told(things, thing):
    """Whether any plain thing is a rising tuple of THINGs."""
    # Rising is asked of numbers alone: None or a list can't be compared with them.
    if not isinstance(thing, tuple) or not all([is_thing(things, each) for each in thing]):
        return False
    return is_rising(thing)


def is_knot(single, several):
    """Whether these are the one end and the other ends of a knot, all unlike."""
    if not isinstance(several, tuple) or not 1 <= len(several) <= MOST_ENDS:
        return False
    return are_unlike_ports((single,) + several)


def is_flat_part(things, thing):
    """Whether any plain thing is a PART other than a net within."""
    if not isinstance(thing, tuple) or not 3 <= len(thing) <= 4:
        return False
    word = thing[0]
    if len(thing) == 4:
        if not are_unlike_ports(thing[1:3]):
            return False
        if word in HOLDING:
            return is_held(things, thing[3])
        return word == "only" and is_told(things, thing[3])
    if word == "copy":
        return is_knot(thing[1], thing[2])
    if word == "merge":
        return is_knot(thing[2], thing[1])
    return word in TWO_PORTS_ALONE and are_unlike_ports(thing[1:])


def has_within_shape(thing):
    """Whether it would be a net within, whatever its inner net is."""
    if not isinstance(thing, tuple) or len(thing) != 3:
        return False
    return thing[0] == "net" and are_unlike_ports(thing[2])


def fits_within(things, part):
    """Whether the inner net has as many things, and a told port for each seen one."""
    inner_things, seen, parts = part[1]
    return inner_things == things and len(seen) == len(part[2])


def check_net(thing, path):
    """Refuse what is no net, at this path, but for how many parts there are."""
    if not isinstance(thing, tuple) or len(thing) != 3 or len(path) >= MOST_DEEP:
        raise NoNet("net", path)
    things, seen, parts = thing
    if not is_things(things):
        raise NoNet("things", path)
    if not is_seen(seen):
        raise NoNet("seen", path)
    if not isinstance(parts, tuple):
        raise NoNet("parts", path)
    for number, part in enumerate(parts):
        check_part(things, part, path + (number,))


def check_part(things, part, path):
    """Refuse what is no part of so many things, at this path."""
    if has_within_shape(part):
        check_net(part[1], path)
        right = fits_within(things, part)
    else:
        right = is_flat_part(things, part)
    if not right:
        raise NoNet("part", path)


def parts_in_all(net):
    """How many parts a net has, a net within and its own parts each counted."""
    many = len(net[2])
    for part in net[2]:
        if part[0] == "net":
            many += parts_in_all(part[1])
    return many
