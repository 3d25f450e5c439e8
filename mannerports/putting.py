"""Nets put together: beside one another, with ports hidden, called otherwise."""

from mannerports.errors import NoJoin
from mannerports.hiding import ports_left, ports_of_both
from mannerports.names import are_unlike_ports
from mannerports.nets import MOST_SEEN, is_net


def beside(one, other):
    """Two nets as one, or NoJoin."""
    if one[0] != other[0]:
        raise NoJoin("things")
    seen = ports_of_both(one[1], other[1])
    if len(seen) > MOST_SEEN:
        raise NoJoin("seen")
    return net_around(one[0], seen, (("net", one, one[1]), ("net", other, other[1])))


def hidden_net(net, ports):
    """A net of which some of its seen ports are seen no more, or NoJoin."""
    return net_around(net[0], ports_left(net[1], ports), (("net", net, net[1]),))


def called(net, names):
    """A net whose seen ports are called by these names, of any plain thing, or NoJoin."""
    if not are_unlike_ports(names) or len(names) != len(net[1]):
        raise NoJoin("names")
    return net_around(net[0], names, (("net", net, names),))


def net_around(things, seen, parts):
    """The net of these, or NoJoin where it is none: too deep, or of too many parts."""
    net = (things, seen, parts)
    if not is_net(net):
        raise NoJoin("many")
    return net
