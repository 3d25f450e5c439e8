"""Ports of two together, and ports that are left where some are hidden."""

from mannerports.errors import NoJoin


def ports_of_both(one, other):
    """The one's ports, then the other's that the one hasn't, in their order."""
    return one + tuple([port for port in other if port not in one])


def ports_left(own, hidden):
    """The own ports but the hidden ones, in their order; NoJoin where hidden has others than own ones."""
    if not all([port in own for port in hidden]):
        raise NoJoin("ports")
    return tuple([port for port in own if port not in hidden])
