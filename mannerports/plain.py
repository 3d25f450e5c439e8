"""What the kinds of plain things have in common."""


def is_whole(thing):
    """Whether it is a whole number."""
    # Python counts truths among the ints; here they are no numbers.
    return isinstance(thing, int) and not isinstance(thing, bool)


def is_from_0(thing):
    """Whether any plain thing is a whole number from 0 on."""
    return is_whole(thing) and thing >= 0


def is_below(many, thing):
    """Whether it is a whole number from 0 to below so many."""
    return is_whole(thing) and 0 <= thing < many


def is_rising(things):
    """Whether these, of a kind that Python can sort, rise, each once."""
    return all([low < high for low, high in zip(things, things[1:])])
