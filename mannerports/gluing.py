"""Ties of machines' steps: moved to other boxes, glued where they share a spot, rid of ports."""


def ties_moved(ties, by):
    """Ties whose boxes have numbers higher by so many."""
    return tuple([(tuple([spot_moved(spot, by) for spot in spots]), told) for spots, told in ties])


def spot_moved(spot, by):
    """A spot whose box, if it has one, has a number higher by so many."""
    word, at = spot
    return spot if word == "port" else (word, at + by)


def ties_glued(ties):
    """Ties of which those that share a spot are one, rising; None where no told thing is left for one."""
    glued = {}
    # For each spot under which number the tie stands in glued that has it.
    numbers = {}
    for number, (spots, told) in enumerate(ties):
        all_spots, left = spots, told
        for touched in sorted({numbers[spot] for spot in spots if spot in numbers}):
            others, things = glued.pop(touched)
            all_spots = all_spots + others
            left = tuple([thing for thing in left if thing in things])
        if not left:
            return None
        glued[number] = (all_spots, left)
        for spot in all_spots:
            numbers[spot] = number
    return tuple(sorted([(tuple(sorted(set(spots))), told) for spots, told in glued.values()]))


def ties_without(ties, ports):
    """Ties without the spots of these ports, rising; those of which no spot is left are left out."""
    gone = [("port", port) for port in ports]
    left = [(tuple([spot for spot in spots if spot not in gone]), told) for spots, told in ties]
    # Each tie has a told thing, so one without spots asks nothing.
    return tuple(sorted([tie for tie in left if tie[0]]))
