"""Tables: which things are such ones, where their steps lead, what rows they have."""

from mannerports.moments import is_moment_of
from mannerports.nets import MOST_THINGS, is_seen
from mannerports.plain import is_below, is_rising, is_whole

MOST_TABLE_STANDS = 2000
BEGIN = (0,)


def is_table(thing):
    """Whether any plain thing is a TABLE."""
    if not isinstance(thing, tuple) or len(thing) != 3:
        return False
    seen, many, steps = thing
    if not is_seen(seen) or not is_whole(many) or not 1 <= many <= MOST_TABLE_STANDS:
        return False
    # Rising is asked of steps alone: other things may be none that can be compared.
    if not isinstance(steps, tuple) or not all([is_table_step(seen, many, step) for step in steps]):
        return False
    return is_rising(steps)


def is_table_step(seen, many, thing):
    """Whether any plain thing is a step of a table of these."""
    if not isinstance(thing, tuple) or len(thing) != 3:
        return False
    begin, moment, end = thing
    return is_below(many, begin) and is_below(many, end) and is_moment_of(MOST_THINGS, seen, moment)


def is_plain(table):
    """Whether a table is PLAIN."""
    # Steps rise: those of alike from and moment stand beside one another.
    return all([low[:2] != high[:2] for low, high in zip(table[2], table[2][1:])])


def are_stands(many, thing):
    """Whether any plain thing is a rising tuple of one or more of so many stands."""
    if not isinstance(thing, tuple) or not all([is_below(many, stand) for stand in thing]):
        return False
    return len(thing) > 0 and is_rising(thing)


def is_row_of(seen, thing):
    """Whether any plain thing is a row of these seen ports of a table."""
    return isinstance(thing, tuple) and all([is_moment_of(MOST_THINGS, seen, moment) for moment in thing])


def stands_behind(table, stands, moment):
    """The stands behind a moment from some stands, a rising tuple."""
    return Follower(table).behind(stands, moment)


def goes_on(table, stands):
    """All moments with which steps go on from one of some stands, a list, rising."""
    return Follower(table).moments(stands)


def table_has(table, row):
    """Whether a table has a row."""
    return table_breaks(table, row) is None


def table_breaks(table, row):
    """The number of the first moment with which a table has a row no more, or None."""
    follower = Follower(table)
    stands = BEGIN
    for number, moment in enumerate(row):
        stands = follower.behind(stands, moment)
        if not stands:
            return number
    return None


def seen_behind(table, row):
    """All moments with which a table goes on behind a row, a list, rising; none where it hasn't the row."""
    follower = Follower(table)
    stands = BEGIN
    for moment in row:
        stands = follower.behind(stands, moment)
    return follower.moments(stands)


def leads_of(plain):
    """For each stand of a plain table a dict: for each moment that goes on from it, rising, to which stand."""
    leads = {stand: {} for stand in range(plain[1])}
    for begin, moment, end in plain[2]:
        leads[begin][moment] = end
    return leads


class Follower:
    """Follows the steps of a table."""

    def __init__(self, table):
        # For each stand, and each moment with which steps go on from it, where these lead.
        self.leads = {}
        for begin, moment, end in table[2]:
            self.leads.setdefault(begin, {}).setdefault(moment, []).append(end)

    def behind(self, stands, moment):
        """The stands behind a moment from some stands, a rising tuple."""
        behind = []
        for stand in stands:
            behind.extend(self.leads.get(stand, {}).get(moment, []))
        return tuple(sorted(set(behind)))

    def moments(self, stands):
        """All moments with which steps go on from one of some stands, rising."""
        return sorted({moment for stand in stands for moment in self.leads.get(stand, {})})

    def moves(self, stands):
        """Each moment with which steps go on from one of some stands, rising, with the stands behind it."""
        return [(moment, self.behind(stands, moment)) for moment in self.moments(stands)]
