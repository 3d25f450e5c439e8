"""PORTs: what ports are called."""

from mannerports.plain import is_rising

SMALL_LETTERS = "abcdefghijklmnopqrstuvwxyz"
MOST_LETTERS = 8


def is_port(thing):
    """Whether any plain thing is a PORT."""
    if not isinstance(thing, str) or not 1 <= len(thing) <= MOST_LETTERS:
        return False
    return all([sign in SMALL_LETTERS for sign in thing])


def are_unlike_ports(thing):
    """Whether any plain thing is a tuple of unlike PORTs, perhaps of none."""
    # All must be texts ahead of the set: a plain thing may be one that no set takes.
    if not isinstance(thing, tuple) or not all([is_port(port) for port in thing]):
        return False
    return len(set(thing)) == len(thing)


def are_rising_ports(thing):
    """Whether any plain thing is a rising tuple of PORTs, perhaps of none."""
    return are_unlike_ports(thing) and is_rising(thing)
