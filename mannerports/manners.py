"""Manners: what each kind of part lets pass at its own ports, and what it holds behind it."""

from mannerports.nets import HOLDING, ports_of

# In the functions of MANNERS, passing has for each port of the part, as they stand in it, the thing
# that passes there, or None.


def both_lets(part, held, passing):
    """Both ends at once or not at all."""
    return passing[0] == passing[1]


def only_lets(part, held, passing):
    """As both, but of told things alone."""
    return passing[0] == passing[1] and (passing[0] is None or passing[0] in part[3])


def loose_lets(part, held, passing):
    """What comes at a goes on to b, or is let go of."""
    return passing[1] is None or passing[0] == passing[1]


def drain_lets(part, held, passing):
    """Both ends together, of any things."""
    return (passing[0] is None) == (passing[1] is None)


def either_lets(part, held, passing):
    """At most one of both ends."""
    return passing[0] is None or passing[1] is None


def place_lets(part, held, passing):
    """In while it is empty, out while it holds."""
    came, went = passing
    if held is None:
        return went is None
    return came is None and (went is None or went == held)


def last_lets(part, held, passing):
    """In at any time, out what it holds already."""
    return passing[1] is None or passing[1] == held


def copy_lets(part, held, passing):
    """The same at all ends."""
    return all([thing == passing[0] for thing in passing])


def merge_lets(part, held, passing):
    """From just one of its ins to its out."""
    went = passing[-1]
    came = [thing for thing in passing[:-1] if thing is not None]
    return came == ([] if went is None else [went])


MANNERS = {
    "both": both_lets,
    "only": only_lets,
    "loose": loose_lets,
    "drain": drain_lets,
    "either": either_lets,
    "place": place_lets,
    "last": last_lets,
    "copy": copy_lets,
    "merge": merge_lets,
}


def lets(part, held, moment):
    """Whether a part that holds this lets a moment, by its own ports alone."""
    manner = MANNERS[part[0]]
    return manner(part, held, passing_at(part, moment))


def held_behind(part, held, moment):
    """What a part that holds this holds behind a moment that it lets."""
    if part[0] not in HOLDING:
        return None
    came, went = passing_at(part, moment)
    return held_then(part, held, came, went)


def held_then(part, held, came, went):
    """What a "place" or "last" holds where this came at its a and that went at its b."""
    if came is not None:
        return came
    if part[0] == "place" and went is not None:
        return None
    return held


def passing_at(part, moment):
    """What passes at the ports of a part, as they stand in it."""
    things = dict(moment)
    return [things.get(port) for port in ports_of(part)]


def choices_of(things, part, held):
    """All that a part that holds this lets at its ports, each choice once: tuples as passing is."""
    manner = MANNERS[part[0]]
    return [choice for choice in choices_to_try(things, part) if manner(part, held, choice)]


def choices_to_try(things, part):
    """Choices among which are all that a part lets."""
    # A knot may have thirteen ports, too many for every choice of theirs to be tried.
    if part[0] == "copy":
        return [(thing,) * len(ports_of(part)) for thing in what_passes(things)]
    if part[0] == "merge":
        return merge_choices(things, len(part[1]))
    return [(one, other) for one in what_passes(things) for other in what_passes(things)]


def what_passes(things):
    """What can pass at a port: nothing, or a thing."""
    return [None] + list(range(things))


def merge_choices(things, many):
    """Nothing at all, and each thing from each of so many ins to the out."""
    choices = [(None,) * (many + 1)]
    for at in range(many):
        for thing in range(things):
            choices.append((None,) * at + (thing,) + (None,) * (many - at - 1) + (thing,))
    return choices
