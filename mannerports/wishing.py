"""Papers of wishes: that one can still come from wherever one is, or a walk behind which it never can."""

from mannerports.meeting import all_met, first_steps, way_to
from mannerports.tabling import ends_by_stand


def wish_paper(table, wish):
    """A wish paper of a table and a wish that is let by."""
    moves = ends_by_stand(table, table[0])
    met, steps = stands_from(moves, 0)
    ranks = ranks_of(steps, wish)
    stuck = [number for number in range(len(met)) if number not in ranks]
    if stuck:
        way = way_to(first_steps(steps), stuck[0])
        stays, steps_within = stands_from(moves, met[stuck[0]])
        return ("waits", tuple([(moment, met[end]) for begin, moment, end in way]), tuple(sorted(stays)))
    # Stands that don't come have no number: from them the wish perhaps can't come.
    by_stand = {stand: ranks[number] for number, stand in enumerate(met)}
    return ("can", tuple([by_stand.get(stand) for stand in range(table[1])]))


def stands_from(moves, begin):
    """The stands that come from one of a table, and the steps between their numbers."""
    return all_met(begin, lambda stand: moves.get(stand, []), None)


def ranks_of(steps, wish):
    """For each number from which steps lead to one that passes the wish, how many are due ahead of that one."""
    ranks = {begin: 0 for begin, moment, end in steps if wish in moment}
    ahead = {}
    for begin, moment, end in steps:
        ahead.setdefault(end, []).append(begin)
    layer = list(ranks)
    while layer:
        farther = []
        for number in layer:
            for begin in ahead.get(number, []):
                if begin not in ranks:
                    ranks[begin] = ranks[number] + 1
                    farther.append(begin)
        layer = farther
    return ranks
