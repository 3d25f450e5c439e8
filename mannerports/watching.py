"""A watch of a net: what was seen so far, and what can be seen next."""

from mannerports.errors import NoBack, NoMoment
from mannerports.flatting import flat_of
from mannerports.moments import first_stand
from mannerports.walks import Walker


class Watch:
    """Is told what is seen at the seen ports of a net, flat or not, moment by moment."""

    def __init__(self, net):
        flat = flat_of(net)
        self.walker = Walker(flat)
        self.row = []
        # The stands at which the net can be: at first, and behind each moment of the row.
        self.layers = [[first_stand(flat)]]

    def may_come(self):
        """All moments that can be seen next, rising."""
        return self.walker.seen_from(self.layers[-1])

    def saw(self, moment):
        """Take a moment as seen, or NoMoment with how many were seen."""
        behind = list(self.walker.ways(self.layers[-1], moment))
        if not behind:
            raise NoMoment(len(self.row))
        self.row.append(moment)
        self.layers.append(behind)

    def back(self):
        """Take back the last moment that was seen, or NoBack."""
        if not self.row:
            raise NoBack("nothing was seen")
        self.row.pop()
        self.layers.pop()

    def row_seen(self):
        """The moments that were seen, a row."""
        return tuple(self.row)

    def stands_many(self):
        """At how many stands the flat net can be by what was seen."""
        return len(self.layers[-1])
