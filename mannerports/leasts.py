"""Least tables, and papers that none is less."""

from mannerports.leastchecker import twos_below
from mannerports.likening import likeness
from mannerports.meeting import MOST_STANDS, all_met, first_steps, labels_of, way_to
from mannerports.tables import BEGIN, Follower, leads_of


def least_table(table):
    """The plain table of fewest stands with the rows of a table, or TooMany."""
    sets = table_of_sets(table)
    leads = leads_of(sets)
    classes = rounds_of(leads)[-1]
    # Alike stands go on alike, so any one of a class tells where the class goes on to.
    by_class = {classes[stand]: leads[stand] for stand in leads}
    met, steps = all_met(classes[0], lambda number: moves_of(by_class[number], classes), None)
    return (table[0], len(met), tuple(steps))


def least_paper(table):
    """A least paper of a table, or TooMany."""
    plain = least_table(table)
    first = first_steps(plain[2])
    ways = [labels_of(way_to(first, stand)) for stand in range(plain[1])]
    # As many pairs come as sets do, so likeness refuses none.
    word, paper = likeness(table, plain)
    return (plain, paper, tuple(ways), partings_of(plain))


def table_of_sets(table):
    """The plain table whose stands are the sets that come, of a table, or TooMany."""
    follower = Follower(table)
    met, steps = all_met(BEGIN, lambda stands: follower.moves(stands), MOST_STANDS)
    return (table[0], len(met), tuple(steps))


def moves_of(ends, classes):
    """The moves to ends, by rising moments, as pairs (moment, class of the end)."""
    return [(moment, classes[end]) for moment, end in ends.items()]


def rounds_of(leads):
    """Lists with for each stand its class, round by round, as leads_of tells where these lead.

    In the round number k those stands have one class from which the same rows of k moments or fewer
    go on. The last round parts no more than the one ahead of it.
    """
    rounds = [[0] * len(leads)]
    many = 0
    while many < max(rounds[-1]) + 1:
        many = max(rounds[-1]) + 1
        rounds.append(next_round(leads, rounds[-1]))
    return rounds


def next_round(leads, classes):
    """For each stand its class by its class so far and by those to which its moments lead."""
    numbers = {}
    parted = []
    for stand, ends in leads.items():
        key = (classes[stand], tuple(moves_of(ends, classes)))
        parted.append(numbers.setdefault(key, len(numbers)))
    return parted


def partings_of(plain):
    """For each two stands of a least table, rising, a row that leads on from just one of them."""
    leads = leads_of(plain)
    twos = twos_below(plain[1])
    rows = {}
    waiting = twos
    for classes in rounds_of(leads):
        parted = [two for two in waiting if classes[two[0]] != classes[two[1]]]
        waiting = [two for two in waiting if classes[two[0]] == classes[two[1]]]
        for two in parted:
            rows[two] = parting_of(leads, two, rows)
    return tuple([rows[two] for two in twos])


def parting_of(leads, two, rows):
    """A row that leads on from just one of two stands, by the rows for those that were parted ahead of them."""
    ends, other_ends = leads[two[0]], leads[two[1]]
    alone = sorted(set(ends) ^ set(other_ends))
    if alone:
        return (alone[0],)
    behind = [(moment, (min(end, other_ends[moment]), max(end, other_ends[moment]))) for moment, end in ends.items()]
    # These two are parted now, so some moment leads to two that were parted already.
    moment, parted = [each for each in behind if each[1] in rows][0]
    return (moment,) + rows[parted]
