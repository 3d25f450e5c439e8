"""The small checker of wish papers: what it lets by shows that a wish can still come, or that it can wait for ever."""

from mannerports.errors import NoWish
from mannerports.moments import is_moment_of
from mannerports.nets import MOST_THINGS
from mannerports.plain import is_below, is_from_0
from mannerports.tables import are_stands


def lets_wish(table, wish, thing):
    """True where any plain thing is a wish paper that shows what it says of a wish, else NoWish."""
    if is_can_paper(table, thing):
        check_can(table, wish, thing[1])
    elif is_waits_paper(table, thing):
        check_waits(table, wish, thing[1], thing[2])
    else:
        raise NoWish("shape", -1)
    return True


def is_can_paper(table, thing):
    """Whether any plain thing is a paper "can" of a table by its kind."""
    if not isinstance(thing, tuple) or len(thing) != 2 or thing[0] != "can":
        return False
    ranks = thing[1]
    if not isinstance(ranks, tuple) or len(ranks) != table[1]:
        return False
    return all([rank is None or is_from_0(rank) for rank in ranks])


def is_waits_paper(table, thing):
    """Whether any plain thing is a paper "waits" of a table by its kind."""
    if not isinstance(thing, tuple) or len(thing) != 3 or thing[0] != "waits":
        return False
    word, walk, stands = thing
    if not isinstance(walk, tuple) or not are_stands(table[1], stands):
        return False
    return all([isinstance(pair, tuple) and len(pair) == 2 and is_below(table[1], pair[1]) for pair in walk])


def check_can(table, wish, ranks):
    """Refuse ranks by which the wish can perhaps not come."""
    if ranks[0] is None:
        raise NoWish("begin", 0)
    # Steps rise, so the first one is from the least stand.
    for begin, moment, end in table[2]:
        if ranks[begin] is not None and ranks[end] is None:
            raise NoWish("leads", begin)
    nearer = {begin: True for begin, moment, end in table[2] if goes_nearer(wish, ranks, begin, moment, end)}
    for stand, rank in enumerate(ranks):
        if rank is not None and stand not in nearer:
            raise NoWish("rank", stand)


def goes_nearer(wish, ranks, begin, moment, end):
    """Whether a step does what the rank of its from asks for."""
    if ranks[begin] is None:
        return False
    if ranks[begin] == 0:
        return wish in moment
    return ranks[end] < ranks[begin]


def check_waits(table, wish, walk, stands):
    """Refuse a walk that is none, or stands that don't keep the wish waiting."""
    last = end_of(table, walk)
    within = {stand: True for stand in stands}
    if last not in within:
        raise NoWish("end", last)
    for begin, moment, end in table[2]:
        if begin in within and end not in within:
            raise NoWish("leads", begin)
    for begin, moment, end in table[2]:
        if begin in within and wish in moment:
            raise NoWish("passes", begin)


def end_of(table, walk):
    """The stand to which a walk leads, or NoWish with the first of it that is no step."""
    steps = {step: True for step in table[2]}
    stand = 0
    for number, (moment, end) in enumerate(walk):
        # Kinds first: a plain thing may be none that a dict takes, and True would be found as 1.
        if not is_moment_of(MOST_THINGS, table[0], moment) or (stand, moment, end) not in steps:
            raise NoWish("walk", number)
        stand = end
    return stand
