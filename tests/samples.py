"""Nets and odd things that several test files use."""

import random

from mannerports.errors import TooMany
from mannerports.flatting import flat_of
from mannerports.tabling import table_of

PORTS = ("a", "b", "c", "d", "net", "end", "within", "both", "hid", "zz")

# Plain things that are no PORT, no PART and no NET.
ODD = (
    None, True, False, 0, 1, -1, 10 ** 40 - 1, "", "both", "Both a b", "a b\n",
    [], (), {}, [[]], ((),), {"a": 1}, {1: [None]}, [1, (), ()], (1, ()), (True, (), ()),
    ("both",), ("both", "a"), ["both", "a", "b"], {"both": ("a", "b")}, (None, None, None),
    ([], {}, []), ("net", "net", "net"), ({}, "a", "b"),
)

# One right part of each kind, of two things, with its ports as they stand in it.
RIGHT_PARTS = (
    (("both", "a", "b"), ("a", "b")),
    (("loose", "b", "a"), ("b", "a")),
    (("place", "a", "b", None), ("a", "b")),
    (("place", "z", "b", 1), ("z", "b")),
    (("last", "a", "b", None), ("a", "b")),
    (("last", "abcdefgh", "b", 0), ("abcdefgh", "b")),
    (("drain", "a", "b"), ("a", "b")),
    (("either", "d", "c"), ("d", "c")),
    (("only", "a", "b", ()), ("a", "b")),
    (("only", "b", "a", (1,)), ("b", "a")),
    (("only", "a", "b", (0, 1)), ("a", "b")),
    (("copy", "m", ("z", "a")), ("m", "z", "a")),
    (("copy", "a", ("b",)), ("a", "b")),
    (("merge", ("z", "a"), "m"), ("z", "a", "m")),
    (("merge", ("b",), "a"), ("b", "a")),
    (("net", (2, (), ()), ()), ()),
    (("net", (2, ("p", "q"), (("both", "q", "r"),)), ("z", "a")), ("z", "a")),
)


def many_ports(count):
    """So many unlike ports."""
    letters = "abcdefghijklmnopqrstuvwxyz"
    return tuple("p" + letters[k // 26] + letters[k % 26] for k in range(count))


def nested(deep, innermost=(1, (), ())):
    """A net in which so many stand within one another, the innermost one told."""
    net = innermost
    for _ in range(deep - 1):
        net = (1, (), (("net", net, ()),))
    return net


def some_parts(count):
    """So many parts, none of them a net."""
    return (("both", "a", "b"),) * count


def random_ports(chance, count):
    return tuple(chance.sample(PORTS, count))


def random_part(chance, things, deep):
    kinds = ["both", "loose", "drain", "either", "place", "last", "only", "copy", "merge", "net"]
    word = chance.choice(kinds if deep < 4 else kinds[:-1])
    a, b = random_ports(chance, 2)
    if word in ("place", "last"):
        return (word, a, b, chance.choice([None] + list(range(things))))
    if word == "only":
        return (word, a, b, tuple(sorted(chance.sample(range(things), chance.randint(0, things)))))
    first, *others = random_ports(chance, chance.randint(2, 10))
    if word == "copy":
        return (word, first, tuple(others))
    if word == "merge":
        return (word, tuple(others), first)
    if word == "net":
        inner = random_net(chance, things, deep + 1)
        return (word, inner, random_ports(chance, len(inner[1])))
    return (word, a, b)


def random_net(chance, things=None, deep=1):
    things = things or chance.randint(1, 3)
    parts = tuple(random_part(chance, things, deep) for _ in range(chance.randint(0, 4)))
    return (things, random_ports(chance, chance.randint(0, 6)), parts)


def random_nets(count):
    """So many nets, the same ones each time."""
    chance = random.Random(12)
    return [random_net(chance) for _ in range(count)]


def random_flat_part(chance, things, ports, most_ends=3):
    """A part, no net within, with ports among the told ones, at least two."""
    word = chance.choice(["both", "loose", "drain", "either", "place", "last", "only", "copy", "merge"])
    a, b = chance.sample(ports, 2)
    if word in ("place", "last"):
        return (word, a, b, chance.choice([None] + list(range(things))))
    if word == "only":
        return (word, a, b, tuple(sorted(chance.sample(range(things), chance.randint(0, things)))))
    first, *others = chance.sample(ports, chance.randint(2, min(len(ports), most_ends + 1)))
    if word == "copy":
        return (word, first, tuple(others))
    if word == "merge":
        return (word, tuple(others), first)
    return (word, a, b)


def random_flat(chance, ports, most_parts=5, most_seen=3, things=None):
    """A flat net with ports among the told ones."""
    things = things or chance.randint(1, 2)
    parts = tuple(random_flat_part(chance, things, ports) for _ in range(chance.randint(0, most_parts)))
    return (things, tuple(chance.sample(ports, chance.randint(0, most_seen))), parts)


def random_net_within(chance, deep, things):
    """A net in which so many nets stand within one another, each of few ports."""
    if deep == 1:
        return random_flat(chance, "abc", 3, 2, things)
    inner = random_net_within(chance, deep - 1, things)
    parts = [("net", inner, tuple(chance.sample("abc", len(inner[1]))))]
    parts += [random_flat_part(chance, things, "abc") for _ in range(chance.randint(0, 2))]
    if chance.random() < 0.3:
        parts.append(("net", inner, tuple(chance.sample("abc", len(inner[1])))))
    chance.shuffle(parts)
    return (things, tuple(chance.sample("abc", chance.randint(0, 3))), tuple(parts))


def random_net_tabled(chance, deep, things):
    """As random_net_within, one whose table is told."""
    while True:
        net = random_net_within(chance, deep, things)
        try:
            table_of(flat_of(net))
            return net
        except TooMany:
            pass


def ring(name, count, held=0):
    """Places one behind the other, the last one ahead of the first, which alone holds something.

    One thing goes round: as many stands come as there are places. The first place's way in is
    called NAMEaa.
    """
    letters = "abcdefghijklmnopqrstuvwxyz"
    ports = [name + letters[k // 26] + letters[k % 26] for k in range(count)]
    return tuple(
        ("place", ports[k], ports[(k + 1) % count], held if k == 0 else None) for k in range(count)
    )


def deep_list(levels):
    """Lists within one another."""
    thing = []
    for _ in range(levels):
        thing = [thing]
    return thing


def fed_ring(name, count):
    """Places in a ring, all empty; what comes at NAMEin goes round for ever."""
    parts = ring(name, count, None)
    last = parts[-1]
    return parts[:-1] + (last[:2] + (name + "back", None), ("merge", (name + "in", name + "back"), name + "aa"))


def fan_of_moments(name):
    """A place with many moments at what it holds: its way out can go on in 4,096 ways."""
    ends = tuple(name + port for port in many_ports(12))
    parts = (("place", name + "i", name + "o", None), ("copy", name + "o", ends))
    return parts + tuple(("loose", port, port + "x") for port in ends)


def fan_of_stands(name):
    """A place with few moments at what it holds, that lead to 512 stands more."""
    ends = tuple(name + port for port in many_ports(9))
    parts = (("place", name + "i", name + "o", None), ("copy", name + "o", ends))
    fill = tuple(("loose", port, port + "x") for port in ends)
    # Each place's way out is barred.
    hold = tuple(("place", port + "x", port + "y", None) for port in ends)
    bar = tuple(("only", port + "y", port + "z", ()) for port in ends)
    return parts + fill + hold + bar
