"""The machine of a part.

It has one place, at which no two of its steps have the same passing ports: so what a part does at a
moment is told by which of its ports pass. A "place" has a box more, which holds FREE while it is
empty: a step can ask a box for a thing that it holds, but not whether it holds none.
"""

from mannerports.nets import HOLDING, ports_of

CONTENT = 0
VACANCY = 1
FREE = 0


def boxes_of(part):
    """What the boxes of a part's machine hold at first."""
    if part[0] not in HOLDING:
        return ()
    if part[0] == "last":
        return (part[3],)
    return (part[3], FREE if part[3] is None else None)


def step_of(ties):
    """The step of these ties, pairs of spots in any order and told things."""
    passing = [at for spots, told in ties for word, at in spots if word == "port"]
    return (0, tuple(sorted(passing)), tuple([(tuple(sorted(spots)), told) for spots, told in ties]), 0)


def passes_at(ports, told):
    """The step by which one of the told things passes at all of these ports."""
    return step_of([([("port", port) for port in ports], told)])


# In the functions of STEPS, told are all things; each makes a list of steps.


def both_steps(part, told):
    """One thing at both ends."""
    return [passes_at(part[1:], told)]


def only_steps(part, told):
    """As both, of the part's own told things, if any."""
    return [passes_at(part[1:3], part[3])] if part[3] else []


def loose_steps(part, told):
    """Let go of, or on to b."""
    return [passes_at(part[1:2], told), passes_at(part[1:], told)]


def drain_steps(part, told):
    """Any two things."""
    return [step_of([([("port", port)], told) for port in part[1:]])]


def either_steps(part, told):
    """One end alone."""
    return [passes_at((port,), told) for port in part[1:]]


def place_steps(part, told):
    """In while it is empty, out while it holds."""
    into = [([("port", part[1]), ("next", CONTENT)], told), ([("box", VACANCY)], (FREE,))]
    out = [([("port", part[2]), ("box", CONTENT)], told), ([("next", VACANCY)], (FREE,))]
    return [step_of(into), step_of(out)]


def last_steps(part, told):
    """In at any time, out what it holds already, which it holds on if nothing comes in."""
    into = ([("port", part[1]), ("next", CONTENT)], told)
    out = ([("port", part[2]), ("box", CONTENT)], told)
    out_held_on = ([("port", part[2]), ("box", CONTENT), ("next", CONTENT)], told)
    return [step_of([into]), step_of([out_held_on]), step_of([into, out])]


def copy_steps(part, told):
    """One thing at all ends."""
    return [passes_at(ports_of(part), told)]


def merge_steps(part, told):
    """One thing from just one of its ins to its out."""
    return [passes_at((port, part[2]), told) for port in part[1]]


STEPS = {
    "both": both_steps,
    "only": only_steps,
    "loose": loose_steps,
    "drain": drain_steps,
    "either": either_steps,
    "place": place_steps,
    "last": last_steps,
    "copy": copy_steps,
    "merge": merge_steps,
}


def part_machine(things, part):
    """A machine with just the rows that a part, no net within, lets at its ports."""
    make = STEPS[part[0]]
    held = boxes_of(part)
    ports = tuple(sorted(ports_of(part)))
    return (things, ports, len(held), (0, held), tuple(make(part, tuple(range(things)))))
