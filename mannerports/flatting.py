"""The flat one of a net: the parts of the nets within stand in their places."""

from mannerports.names import SMALL_LETTERS
from mannerports.nets import hidden_in, ports_in


def flat_of(net):
    """The flat net that has the rows of a net."""
    things, seen, parts = net
    # Its own ports keep their names: only those hidden within nets within get others.
    names = {port: port for port in ports_in(net)}
    return (things, seen, tuple(flat_parts(net, names, Namer(ports_anywhere(net)))))


def flat_parts(net, names, namer):
    """The parts of a net's flat one, with its ports called by these names."""
    flat = []
    for part in net[2]:
        if part[0] == "net":
            flat.extend(flat_parts(part[1], names_within(part, names, namer), namer))
        else:
            flat.append(renamed(part, names))
    return flat


def names_within(part, names, namer):
    """What the ports of the net within a part are called in the flat one."""
    inner = part[1]
    within = {port: names[told] for port, told in zip(inner[1], part[2])}
    for port in hidden_in(inner):
        within[port] = namer.fresh()
    return within


def renamed(part, names):
    """A part, no net within, with its ports called by these names."""
    if part[0] == "copy":
        return ("copy", names[part[1]], names_of(part[2], names))
    if part[0] == "merge":
        return ("merge", names_of(part[1], names), names[part[2]])
    return (part[0], names[part[1]], names[part[2]]) + part[3:]


def names_of(ports, names):
    """What ports are called, a tuple."""
    return tuple([names[port] for port in ports])


def ports_anywhere(net):
    """The ports of a net and of all nets within, some perhaps more than once."""
    ports = list(ports_in(net))
    for part in net[2]:
        if part[0] == "net":
            ports.extend(ports_anywhere(part[1]))
    return ports


def word_by(number):
    """The word of this number, from 0, as words are counted: a, b, .., z, aa, ab, .."""
    word = ""
    left = number + 1
    while left > 0:
        left, at = divmod(left - 1, len(SMALL_LETTERS))
        word = SMALL_LETTERS[at] + word
    return word


class Namer:
    """Tells ports, each one once, that are called like none of the taken ones."""

    def __init__(self, taken):
        self.taken = {port: True for port in taken}
        self.tried = 0

    def fresh(self):
        """The next port that is not taken."""
        word = self.next_word()
        while word in self.taken:
            word = self.next_word()
        return word

    def next_word(self):
        """The next word that was not tried yet."""
        self.tried += 1
        return word_by(self.tried - 1)
