"""What a MACHINE and a TABLE are, written down once more by the words of the document; and some of them."""

import re

from samples import many_ports


def whole(thing, low, high=10 ** 41):
    """A whole number from low to below high."""
    return type(thing) is int and low <= thing < high


def port(thing):
    return type(thing) is str and re.fullmatch("[a-z]{1,8}", thing) is not None


def tuple_of(thing, right):
    return type(thing) is tuple and all(right(each) for each in thing)


def rising_of(thing, right):
    return tuple_of(thing, right) and list(thing) == sorted(set(thing))


def tuple_like(thing, *rights):
    """A tuple of as many things, each right as told."""
    return type(thing) is tuple and len(thing) == len(rights) and all(
        right(each) for right, each in zip(rights, thing))


def any_thing(thing):
    return True


def machine_by_words(thing):
    if not tuple_like(thing, lambda things: whole(things, 1, 4), lambda ports: rising_of(ports, port),
                      lambda boxes: whole(boxes, 0), any_thing, any_thing):
        return False
    things, ports, boxes, begin, steps = thing

    def held(each):
        return each is None or whole(each, 0, things)

    def step(each):
        return step_by_words(things, ports, boxes, each)
    if not tuple_like(begin, lambda place: whole(place, 0), lambda helds: tuple_of(helds, held)):
        return False
    return len(begin[1]) == boxes and tuple_of(steps, step) and len(set(steps)) == len(steps)


def step_by_words(things, ports, boxes, thing):
    def spot(each):
        return tuple_like(each, any_thing, any_thing) and (
            each[0] in ("box", "next") and whole(each[1], 0, boxes) or each[0] == "port" and port(each[1]))

    def told(each):
        return each != () and rising_of(each, lambda one: whole(one, 0, things))

    def spots(each):
        return each != () and rising_of(each, spot)
    if not tuple_like(thing, lambda place: whole(place, 0), lambda passing: rising_of(passing, lambda p: p in ports),
                      lambda ties: tuple_of(ties, lambda tie: tuple_like(tie, spots, told)),
                      lambda place: whole(place, 0)):
        return False
    found = [each for tie in thing[2] for each in tie[0]]
    return len(set(found)) == len(found) and {each[1] for each in found if each[0] == "port"} == set(thing[1])


def table_by_words(thing):
    def seen(each):
        return tuple_of(each, port) and len(set(each)) == len(each) <= 6
    if not tuple_like(thing, seen, lambda many: whole(many, 1, 2001), any_thing):
        return False
    ports, many, steps = thing

    def stand(each):
        return whole(each, 0, many)

    def pair(each):
        return tuple_like(each, lambda one: one in ports, lambda one: whole(one, 0, 3))

    def moment(each):
        return rising_of(each, pair) and len(dict(each)) == len(each)
    return rising_of(steps, lambda step: tuple_like(step, stand, moment, stand))


def random_told(chance, things):
    return tuple(sorted(chance.sample(range(things), chance.randint(1, things))))


def random_step(chance, things, ports, boxes, places, most_free=3):
    """A step with few ties without a box, so that it has few doings."""
    passing = tuple(sorted(chance.sample(ports, chance.randint(0, min(len(ports), 3)))))
    spots = [("port", each) for each in passing]
    for box in range(boxes):
        spots += chance.choice([[], [], [("box", box)], [("next", box)], [("box", box), ("next", box)]])
    chance.shuffle(spots)
    ties = []
    while spots:
        count = chance.randint(1, 3)
        ties.append((tuple(sorted(spots[:count])), random_told(chance, things)))
        spots = spots[count:]
    free = [number for number, tie in enumerate(ties) if all(word != "box" for word, at in tie[0])]
    for number in free[most_free:]:
        ties[number] = (ties[number][0], ties[number][1][:1])
    return (chance.randrange(places), passing, tuple(ties), chance.randrange(places))


def random_machine(chance, things, ports, boxes=2, places=2, most_steps=6):
    steps = [random_step(chance, things, ports, boxes, places) for _ in range(chance.randint(0, most_steps))]
    held = tuple(chance.choice([None] + list(range(things))) for _ in range(boxes))
    begin = (chance.randrange(places), held)
    return (things, tuple(sorted(ports)), boxes, begin, tuple(dict.fromkeys(steps)))


def wide_machine(count, held=0):
    """A machine of so many boxes, each with a way in, also where it holds something, and a way out."""
    names = many_ports(count)
    steps = []
    for box, name in enumerate(names):
        into = ((("next", box), ("port", "i" + name)), (0, 1))
        out = ((("box", box), ("port", "o" + name)), (0, 1))
        steps += [(0, ("i" + name,), (into,), 0), (0, ("o" + name,), (out,), 0)]
    ports = tuple(sorted(way + name for way in "io" for name in names))
    return (2, ports, count, (0, (held,) * count), tuple(steps))


def random_moment(chance, ports, things=3):
    passing = sorted(chance.sample(ports, chance.randint(0, min(2, len(ports)))))
    return tuple((port, chance.randrange(things)) for port in passing)


def random_table(chance, ports, many=4, most_steps=12, things=2):
    """A table whose seen ports stand in any order."""
    steps = set()
    for _ in range(chance.randint(0, most_steps)):
        steps.add((chance.randrange(many), random_moment(chance, ports, things), chance.randrange(many)))
    return (tuple(chance.sample(ports, len(ports))), many, tuple(sorted(steps)))


def round_table(port, count, many=None):
    """A table that goes round so many stands, one with each thing 0 at a port, and may stay."""
    steps = [(k, ((port, 0),), (k + 1) % count) for k in range(count)] + [(k, (), k) for k in range(count)]
    return ((port,), many or count, tuple(sorted(steps)))


def chain(places, channels, things=1, name="c"):
    """A flat net of so many places in a row, then so many channels, its two ends seen."""
    ports = [name + port for port in many_ports(places + channels + 1)]
    parts = [("place", one, other, None) for one, other in zip(ports[:places], ports[1:])]
    words = ("both", "loose", "copy", "merge")
    for number, (one, other) in enumerate(zip(ports[places:], ports[places + 1:])):
        word = words[number % len(words)]
        if word == "copy":
            parts.append((word, one, (other,)))
        elif word == "merge":
            parts.append((word, (one,), other))
        else:
            parts.append((word, one, other))
    return (things, (ports[0], ports[-1]), tuple(parts))
