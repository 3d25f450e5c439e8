"""Likeness: a paper that two tables have the same rows, or a shortest row that one alone has."""

from mannerports.likechecker import check_same_ports
from mannerports.meeting import all_met, first_steps, labels_of, way_to
from mannerports.tables import BEGIN, Follower

MOST_PAIRS = 2000


def likeness(one, other):
    """("alike", paper) or ("parted", row) of two tables, or NoAlike, TooMany."""
    check_same_ports(one, other)
    matcher = Matcher(one, other)
    # All pairs are met ahead of any answer, as too many are refused whatever it would be.
    met, steps = all_met((BEGIN, BEGIN), lambda pair: matcher.moves(pair), MOST_PAIRS, "pairs")
    for number, pair in enumerate(met):
        alone = matcher.moments_of_one_alone(pair)
        # The first one met is nearest to the begin, so no shorter row parts the tables.
        if alone:
            return ("parted", labels_of(way_to(first_steps(steps), number)) + (alone[0],))
    return ("alike", tuple(met))


class Matcher:
    """Goes on from pairs of some stands of the one table and some of the other."""

    def __init__(self, one, other):
        self.one = Follower(one)
        self.other = Follower(other)

    def moves(self, pair):
        """Each moment that goes on from both sides of a pair, with the pair behind it."""
        ones, others = pair
        going_on = {moment: True for moment in self.other.moments(others)}
        return [
            (moment, (self.one.behind(ones, moment), self.other.behind(others, moment)))
            for moment in self.one.moments(ones) if moment in going_on
        ]

    def moments_of_one_alone(self, pair):
        """The moments that go on from just one side of a pair, rising."""
        ones, others = pair
        return sorted(set(self.one.moments(ones)) ^ set(self.other.moments(others)))
