"""What comes: all stands to which moves lead from a first one, whatever the stands are of."""

from mannerports.errors import TooMany

MOST_STANDS = 400


def all_met(begin, moves, most):
    """A pair: all stands that come, as they come, and the steps between their numbers, rising.

    Of a stand, moves tells a list of pairs (label, stand behind it); a step is (from, label, to).
    TooMany where more than most stands are there (None: no bound).
    """
    met = [begin]
    numbers = {begin: 0}
    steps = {}
    done = 0
    while done < len(met):
        for label, behind in moves(met[done]):
            if behind not in numbers:
                numbers[behind] = len(met)
                met.append(behind)
            steps[(done, label, numbers[behind])] = True
        # Asked behind all moves of a stand: what moves refuses of it goes ahead of too many stands.
        if most is not None and len(met) > most:
            raise TooMany("stands")
        done += 1
    return met, sorted(steps)
