"""The small checker of least papers: what it lets by shows that no plain table of fewer stands has these rows."""

from mannerports.errors import NoAlike, NoLeast
from mannerports.likechecker import lets_alike
from mannerports.tables import is_plain, is_row_of, is_table, leads_of


def lets_least(table, thing):
    """How many stands the plain table of a least paper has, of any plain thing, else NoLeast."""
    if not is_least_paper(table, thing):
        raise NoLeast("shape", -1)
    plain, paper, ways, partings = thing
    check_likeness(table, plain, paper)
    leads = leads_of(plain)
    for number, way in enumerate(ways):
        if end_along(leads, 0, way) != number:
            raise NoLeast("way", number)
    for number, (one, other) in enumerate(twos_below(plain[1])):
        stops, other_stops = [end_along(leads, stand, partings[number]) is None for stand in (one, other)]
        if stops == other_stops:
            raise NoLeast("parting", number)
    return plain[1]


def is_least_paper(table, thing):
    """Whether any plain thing is a least paper of a table by its kind, its likeness paper whatever."""
    if not isinstance(thing, tuple) or len(thing) != 4:
        return False
    plain, paper, ways, partings = thing
    if not is_table(plain) or not is_plain(plain) or sorted(plain[0]) != sorted(table[0]):
        return False
    many = plain[1]
    return are_rows(plain[0], many, ways) and are_rows(plain[0], many * (many - 1) // 2, partings)


def are_rows(seen, many, thing):
    """Whether any plain thing is a tuple of so many rows of these ports."""
    if not isinstance(thing, tuple) or len(thing) != many:
        return False
    return all([is_row_of(seen, row) for row in thing])


def check_likeness(table, plain, paper):
    """Refuse as a least paper what the checker of likeness refuses."""
    try:
        lets_alike(table, plain, paper)
    except NoAlike as refusal:
        raise NoLeast(refusal.word, refusal.number) from None


def twos_below(many):
    """All pairs of numbers below many, the lesser first, rising."""
    return [(one, other) for one in range(many) for other in range(one + 1, many)]


def end_along(leads, stand, row):
    """The stand to which a row leads from a stand of a plain table, None where it doesn't lead on."""
    for moment in row:
        stand = leads[stand].get(moment)
        if stand is None:
            return None
    return stand
