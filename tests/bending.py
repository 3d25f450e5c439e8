"""Plain things bent at each place within."""

from samples import ODD


def places_in(thing, path=()):
    """The paths to all things within a thing of tuples, itself one."""
    yield path
    if isinstance(thing, tuple):
        for number, each in enumerate(thing):
            yield from places_in(each, path + (number,))


def at_path(thing, path):
    for number in path:
        thing = thing[number]
    return thing


def put(thing, path, other):
    """The thing with another one at a path."""
    if not path:
        return other
    number = path[0]
    return thing[:number] + (put(thing[number], path[1:], other),) + thing[number + 1:]


def of_other_kind(thing):
    """The thing with each tuple within as a list, each 0 and 1 as a truth, one at a time: all are wrong."""
    for path in places_in(thing):
        each = at_path(thing, path)
        if isinstance(each, tuple):
            yield put(thing, path, list(each))
        elif each in (0, 1):
            yield put(thing, path, bool(each))


def bends(thing):
    """The thing with something else at each place within, one at a time; perhaps some are right."""
    yield from of_other_kind(thing)
    for path in places_in(thing):
        each = at_path(thing, path)
        others = list(ODD)
        if isinstance(each, tuple):
            others += [each + each[-1:], each[:-1], each[::-1], each[1:], each + (None,), (each,), dict(enumerate(each))]
        elif isinstance(each, str):
            others += ["", each + " ", each.upper(), "a", "b", "c", "z", "abcdefghi", "box", "next", "port", (each,)]
        elif isinstance(each, int):
            others += [each + 1, each - 1, each + 2, -each - 1, str(each), (each,), 10 ** 39]
        for other in others:
            yield put(thing, path, other)
