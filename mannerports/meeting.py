"""What comes: all stands to which moves lead from a first one, whatever the stands are of."""

from mannerports.errors import TooMany

MOST_STANDS = 400


def all_met(begin, moves, most, word="stands"):
    """A pair: all stands that come, as they come, and the steps between their numbers, rising.

    Of a stand, moves tells a list of pairs (label, stand behind it); a step is (from, label, to).
    TooMany of this word where more than most stands are there (None: no bound).
    """
    met = [begin]
    numbers = {begin: 0}
    steps = {}
    done = 0
    while done < len(met):
        for label, behind in moves(met[done]):
            if behind not in numbers:
                numbers[behind] = len(met)
                met.append(behind)
            steps[(done, label, numbers[behind])] = True
        # Asked behind all moves of a stand: what moves refuses of it goes ahead of too many stands.
        if most is not None and len(met) > most:
            raise TooMany(word)
        done += 1
    return met, sorted(steps)


def first_steps(steps):
    """For each number but 0 the step by which it came first, of the steps that all_met tells."""
    first = {}
    for step in steps:
        first.setdefault(step[2], step)
    return first


def way_to(first, number):
    """The steps of a shortest way from 0 to a number, by the first steps."""
    way = []
    while number != 0:
        way.append(first[number])
        number = first[number][0]
    return way[::-1]


def labels_of(way):
    """The labels of the steps of a way, a tuple."""
    return tuple([label for begin, label, end in way])
