"""What papers are let by, and what they show, worked out plainly by the words of the document; and some of them.

A refusal here is a tuple of the word and the number; None where nothing is refused.
"""

import itertools

from kinds import rising_of, table_by_words, tuple_like, tuple_of, whole
from systems import parting, table_system


def going(table, stands):
    return {moment for begin, moment, end in table[2] if begin in stands}


def behind(table, stands, moment):
    return tuple(sorted({end for begin, seen, end in table[2] if begin in stands and seen == moment}))


def is_stands(many, thing):
    return rising_of(thing, lambda stand: whole(stand, 0, many)) and thing != ()


def is_moment(ports, thing):
    def is_pair(each):
        return tuple_like(each, lambda port: port in ports, lambda one: whole(one, 0, 3))
    return rising_of(thing, is_pair) and len(dict(thing)) == len(thing)


def is_plain(table):
    return len({(begin, moment) for begin, moment, end in table[2]}) == len(table[2])


def alike_refusal(one, other, thing):
    """What is refused of a likeness paper."""
    if set(one[0]) != set(other[0]):
        return ("ports", -1)
    if not tuple_of(thing, lambda pair: tuple_like(
            pair, lambda ones: is_stands(one[1], ones), lambda others: is_stands(other[1], others))):
        return ("shape", -1)
    if ((0,), (0,)) not in thing:
        return ("begin", -1)
    for number, (ones, others) in enumerate(thing):
        moments = going(one, ones)
        if moments != going(other, others):
            return ("moment", number)
        for moment in moments:
            if (behind(one, ones, moment), behind(other, others, moment)) not in thing:
                return ("pair", number)
    return None


def least_refusal(table, thing):
    """What is refused of a least paper."""
    def is_row(each):
        return tuple_of(each, lambda moment: is_moment(thing[0][0], moment))

    def are_rows(each):
        return tuple_of(each, is_row)
    if not tuple_like(thing, lambda each: table_by_words(each) and is_plain(each), lambda each: True, are_rows, are_rows):
        return ("shape", -1)
    plain, paper, ways, partings = thing
    twos = list(itertools.combinations(range(plain[1]), 2))
    if set(plain[0]) != set(table[0]) or len(ways) != plain[1] or len(partings) != len(twos):
        return ("shape", -1)
    if alike_refusal(table, plain, paper):
        return alike_refusal(table, plain, paper)
    for number, way in enumerate(ways):
        if ends_along(plain, 0, way) != (number,):
            return ("way", number)
    for number, (low, high) in enumerate(twos):
        if bool(ends_along(plain, low, partings[number])) == bool(ends_along(plain, high, partings[number])):
            return ("parting", number)
    return None


def ends_along(table, stand, row):
    stands = (stand,)
    for moment in row:
        stands = behind(table, stands, moment)
    return stands


def wish_refusal(table, wish, thing):
    """What is refused of a wish paper."""
    many, steps = table[1], table[2]

    def is_rank(each):
        return each is None or whole(each, 0)

    def is_walked(each):
        return tuple_like(each, lambda moment: True, lambda stand: whole(stand, 0, many))
    if tuple_like(thing, lambda each: each == "can", lambda each: tuple_of(each, is_rank)) and len(thing[1]) == many:
        return can_refusal(steps, wish, thing[1])
    if tuple_like(thing, lambda each: each == "waits", lambda each: tuple_of(each, is_walked),
                  lambda each: is_stands(many, each)):
        return waits_refusal(table, wish, thing[1], thing[2])
    return ("shape", -1)


def can_refusal(steps, wish, ranks):
    if ranks[0] is None:
        return ("begin", 0)
    numbered = [stand for stand, rank in enumerate(ranks) if rank is not None]
    leads = {stand: [(moment, ranks[end]) for begin, moment, end in steps if begin == stand] for stand in numbered}
    for stand in numbered:
        if any(rank is None for moment, rank in leads[stand]):
            return ("leads", stand)
    for stand in numbered:
        if ranks[stand] == 0:
            right = any(wish in moment for moment, rank in leads[stand])
        else:
            right = any(rank < ranks[stand] for moment, rank in leads[stand])
        if not right:
            return ("rank", stand)
    return None


def waits_refusal(table, wish, walk, stands):
    at = 0
    for number, (moment, stand) in enumerate(walk):
        if not is_moment(table[0], moment) or (at, moment, stand) not in table[2]:
            return ("walk", number)
        at = stand
    if at not in stands:
        return ("end", at)
    for stand in stands:
        if any(begin == stand and end not in stands for begin, moment, end in table[2]):
            return ("leads", stand)
    for stand in stands:
        if any(begin == stand and wish in moment for begin, moment, end in table[2]):
            return ("passes", stand)
    return None


def pairs_from(one, other, begin=((0,), (0,))):
    """The pairs that come from one, of moments that go on from both sides, as they come."""
    pairs = [begin]
    for ones, others in pairs:
        for moment in sorted(going(one, ones) & going(other, others)):
            pair = (behind(one, ones, moment), behind(other, others, moment))
            if pair not in pairs:
                pairs.append(pair)
    return pairs


def sets_from(table, begin=(0,)):
    """The sets that come, as they come."""
    sets = [begin]
    for stands in sets:
        for moment in sorted(going(table, stands)):
            if behind(table, stands, moment) not in sets:
                sets.append(behind(table, stands, moment))
    return sets


def from_stands(table, stands):
    """A table as a system that begins at some stands."""
    system = table_system(table)

    def steps(state):
        return [(moment, end) for moment in going(table, state) for end in [behind(table, state, moment)]]
    system.begin, system.steps = stands, steps
    return system


def least_by_words(table):
    """The least table: each set that comes is told by the first one from which the same rows go on."""
    firsts = []
    named = {}
    for stands in sets_from(table):
        alike = [one for one in firsts if parting(from_stands(table, one), from_stands(table, stands)) is None]
        if not alike:
            firsts.append(stands)
        named[stands] = (alike + [stands])[0]
    numbered = [(0,)]
    steps = []
    for stands in numbered:
        for moment in sorted(going(table, stands)):
            end = named[behind(table, stands, moment)]
            if end not in numbered:
                numbered.append(end)
            steps.append((numbered.index(stands), moment, numbered.index(end)))
    return (table[0], len(numbered), tuple(sorted(steps)))


def least_paper_by_words(table):
    """A least paper, right if the words above are."""
    plain = least_by_words(table)
    ways = {0: ()}
    while len(ways) < plain[1]:
        for begin, moment, end in plain[2]:
            if begin in ways:
                ways.setdefault(end, ways[begin] + (moment,))
    partings = []
    for low, high in itertools.combinations(range(plain[1]), 2):
        partings.append(parting(from_stands(plain, (low,)), from_stands(plain, (high,))))
    return (plain, tuple(pairs_from(table, plain)), tuple(ways[k] for k in range(plain[1])), tuple(partings))


def spread(chance, table, most=3):
    """A table with the same rows, of one to three stands for each, its ports in any order, several ways along rows."""
    copies = {stand: chance.randint(1, most) for stand in range(table[1])}
    numbers = [(stand, copy) for stand in copies for copy in range(copies[stand]) if (stand, copy) != (0, 0)]
    chance.shuffle(numbers)
    numbers = [(0, 0)] + numbers
    steps = set()
    for begin, moment, end in table[2]:
        for copy in range(copies[begin]):
            for other in chance.sample(range(copies[end]), chance.randint(1, copies[end])):
                steps.add((numbers.index((begin, copy)), moment, numbers.index((end, other))))
    return (tuple(chance.sample(table[0], len(table[0]))), len(numbers), tuple(sorted(steps)))


def passed_from(table, wish, stand):
    """Whether steps lead from a stand along one that passes the wish."""
    come = [stand]
    for each in come:
        come += [end for begin, moment, end in table[2] if begin == each and end not in come]
    return any(begin in come and wish in moment for begin, moment, end in table[2])


def stands_that_come(table):
    come = [0]
    for each in come:
        for begin, moment, end in table[2]:
            if begin == each and end not in come:
                come.append(end)
    return come
