"""Nets written as lines, and lines read as nets."""

from mannerports.errors import NoText
from mannerports.figures import number_by
from mannerports.nets import HOLDING, MOST_DEEP, MOST_PARTS
from mannerports.nets import is_flat_part, is_seen, is_things, ports_of

NOTHING_HELD = "-"


def net_lines(net):
    """The lines that write a net."""
    things, seen, parts = net
    lines = [" ".join(["net", str(things)] + list(seen))]
    for part in parts:
        lines.extend(part_lines(part))
    return lines


def part_lines(part):
    """The lines that write a part."""
    ports = list(ports_of(part))
    if part[0] == "net":
        return [" ".join(["within"] + ports)] + net_lines(part[1]) + ["end"]
    return [" ".join([part[0]] + ports + words_behind_ports(part))]


def words_behind_ports(part):
    """The words for what a part holds, or for the things that it is told."""
    if part[0] in HOLDING:
        return [NOTHING_HELD if part[3] is None else str(part[3])]
    if part[0] == "only":
        return [str(number) for number in part[3]]
    return []


def read_net(lines):
    """The net that a list of texts writes, or NoText."""
    reader = Reader()
    for row, line in enumerate(lines):
        # Split by one blank each, so that a blank too many leaves an empty word, which is none.
        if not reader.takes(line.split(" ")):
            raise NoText(row)
    if not reader.is_done():
        raise NoText(len(lines))
    return reader.begun[0].as_net()


def held_by(word):
    """What a word tells as held, else a number that is no thing."""
    return None if word == NOTHING_HELD else number_by(word)


def part_by(words):
    """The tuple that the words of a line write, which is a part only if the line is right."""
    first = words[0]
    if first in HOLDING and len(words) == 4:
        return (first, words[1], words[2], held_by(words[3]))
    if first == "only" and len(words) >= 3:
        return (first, words[1], words[2], tuple([number_by(word) for word in words[3:]]))
    if first == "copy" and len(words) >= 2:
        return (first, words[1], tuple(words[2:]))
    if first == "merge":
        return (first, tuple(words[1:-1]), words[-1])
    return tuple(words)


class Begun:
    """A net whose first line is read, with the parts that are read of it so far."""

    def __init__(self, things, seen):
        self.things = things
        self.seen = seen
        self.parts = []

    def as_net(self):
        """The net of what is read so far."""
        return (self.things, self.seen, tuple(self.parts))


class Reader:
    """The nets that are begun and not ended, the outer ones first.

    told has the ports of each line "within" that is not ended, so a net's first line is due
    where there are as many of these as nets begun.
    """

    def __init__(self):
        self.begun = []
        self.told = []
        self.many = 0

    def takes(self, words):
        """Take the words of the next line; False where it can't stand here."""
        if len(self.begun) == len(self.told):
            return self.begins(words)
        if words == ["end"]:
            return self.ends()
        if self.many == MOST_PARTS:
            return False
        if words[0] == "within":
            return self.goes_within(tuple(words[1:]))
        return self.lays(part_by(words))

    def is_done(self):
        """Whether the outermost net is begun and each net within is ended."""
        return len(self.begun) == 1 and not self.told

    def begins(self, words):
        """Begin a net by the words of its first line."""
        if len(words) < 2 or words[0] != "net":
            return False
        net = Begun(number_by(words[1]), tuple(words[2:]))
        if not is_things(net.things) or not is_seen(net.seen) or not self.fits(net):
            return False
        self.begun.append(net)
        return True

    def fits(self, net):
        """Whether a net to be begun is as the line "within" ahead of it told."""
        if not self.told:
            return True
        return net.things == self.begun[-1].things and len(net.seen) == len(self.told[-1])

    def goes_within(self, ports):
        """Take a line "within" with these ports."""
        if len(self.begun) == MOST_DEEP or not is_seen(ports):
            return False
        self.told.append(ports)
        self.many += 1
        return True

    def ends(self):
        """End the innermost net, which becomes a part of the one around it."""
        if not self.told:
            return False
        inner = self.begun.pop()
        self.begun[-1].parts.append(("net", inner.as_net(), self.told.pop()))
        return True

    def lays(self, part):
        """Take a part that is no net within."""
        if not is_flat_part(self.begun[-1].things, part):
            return False
        self.begun[-1].parts.append(part)
        self.many += 1
        return True
