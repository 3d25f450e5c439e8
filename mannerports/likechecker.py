"""The small checker of likeness papers: what it lets by shows that two tables have the same rows."""

from mannerports.errors import NoAlike
from mannerports.tables import BEGIN, Follower, are_stands


def lets_alike(one, other, thing):
    """True where any plain thing is a likeness paper that shows two tables alike, else NoAlike."""
    check_same_ports(one, other)
    if not is_likeness_paper(one, other, thing):
        raise NoAlike("shape", -1)
    pairs = {pair: True for pair in thing}
    if (BEGIN, BEGIN) not in pairs:
        raise NoAlike("begin", -1)
    follower, other_follower = Follower(one), Follower(other)
    for number, (ones, others) in enumerate(thing):
        moments = follower.moments(ones)
        if moments != other_follower.moments(others):
            raise NoAlike("moment", number)
        for moment in moments:
            if (follower.behind(ones, moment), other_follower.behind(others, moment)) not in pairs:
                raise NoAlike("pair", number)
    return True


def check_same_ports(one, other):
    """Refuse two tables that don't see the same ports, in whatever order."""
    if sorted(one[0]) != sorted(other[0]):
        raise NoAlike("ports", -1)


def is_likeness_paper(one, other, thing):
    """Whether any plain thing is a likeness paper of two tables by its kind."""
    return isinstance(thing, tuple) and all([is_pair_of_stands(one, other, pair) for pair in thing])


def is_pair_of_stands(one, other, thing):
    """Whether any plain thing is a pair of some stands of the one and some of the other."""
    if not isinstance(thing, tuple) or len(thing) != 2:
        return False
    return are_stands(one[1], thing[0]) and are_stands(other[1], thing[1])
