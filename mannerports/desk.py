"""A desk: nets and tables by names, told and asked by rows."""

from mannerports.building import net_for
from mannerports.errors import NoRow
from mannerports.figures import number_by
from mannerports.flatting import flat_of
from mannerports.leasts import least_table
from mannerports.likening import likeness
from mannerports.moments import is_moment_of
from mannerports.names import is_port
from mannerports.netlines import read_net
from mannerports.nets import MOST_THINGS, is_thing, is_things
from mannerports.tablelines import read_table, table_lines
from mannerports.tables import seen_behind
from mannerports.tabling import table_of
from mannerports.wishing import wish_paper

STILL = "-"
DONE = "ok"


def check_count(words, many):
    """Refuse other than so many words behind the first."""
    if len(words) != many:
        raise NoRow("there is no row of so many words")


def name_by(word):
    """The name, or the PORT, that a word is, or NoRow."""
    if not is_port(word):
        raise NoRow("a word is no name")
    return word


def net_named(desk, word):
    """The net of a name, or NoRow."""
    if name_by(word) not in desk.nets:
        raise NoRow("there is no net of this name")
    return desk.nets[word]


def table_named(desk, word):
    """The table of a name, or NoRow."""
    if name_by(word) not in desk.tables:
        raise NoRow("there is no table of this name")
    return desk.tables[word]


def things_by(word):
    """The number of things that a word writes, or NoRow."""
    if not is_things(number_by(word)):
        raise NoRow("a word is no number of things")
    return number_by(word)


def thing_by(word):
    """The thing that a word writes, or NoRow."""
    if not is_thing(MOST_THINGS, number_by(word)):
        raise NoRow("a word is no thing")
    return number_by(word)


def moment_by(word):
    """The moment that a word writes, of whatever ports, or NoRow."""
    if word == STILL:
        return ()
    moment = tuple([pair_by(part) for part in word.split(",")])
    if not is_moment_of(MOST_THINGS, [port for port, thing in moment], moment):
        raise NoRow("a word is no moment")
    return moment


def pair_by(text):
    """The pair of a port and a thing that a text writes, or NoRow."""
    halves = text.split(":")
    if len(halves) != 2:
        raise NoRow("a word is no moment")
    return (name_by(halves[0]), thing_by(halves[1]))


def moment_word(moment):
    """The word that writes a moment."""
    if not moment:
        return STILL
    return ",".join([f"{port}:{thing}" for port, thing in moment])


def row_words(row):
    """The words that write the moments of a row."""
    return [moment_word(moment) for moment in row]


# Each function below answers the rows of one first word. It looks at all words behind that ahead of all
# else, and lays nothing down until nothing can be refused any more.


def take_net(desk, words, lines):
    """net NAME, and lines."""
    check_count(words, 1)
    name = name_by(words[0])
    desk.nets[name] = read_net(lines)
    return DONE


def take_table(desk, words, lines):
    """table NAME, and lines."""
    check_count(words, 1)
    name = name_by(words[0])
    desk.tables[name] = read_table(lines)
    return DONE


def make_table(desk, words):
    """make NAME NET."""
    check_count(words, 2)
    name, net = name_by(words[0]), net_named(desk, words[1])
    desk.tables[name] = table_of(flat_of(net))
    return DONE


def build_net(desk, words):
    """build NAME THINGS TABLE."""
    check_count(words, 3)
    name, things, table = name_by(words[0]), things_by(words[1]), table_named(desk, words[2])
    desk.nets[name] = net_for(things, table)[0]
    return DONE


def tell_may(desk, words):
    """may TABLE ROW."""
    if not words:
        raise NoRow("there is no table's name")
    row = [moment_by(word) for word in words[1:]]
    moments = seen_behind(table_named(desk, words[0]), row)
    return " ".join(row_words(moments)) if moments else "none"


def tell_alike(desk, words):
    """alike ONE OTHER."""
    check_count(words, 2)
    one, other = table_named(desk, words[0]), table_named(desk, words[1])
    word, shown = likeness(one, other)
    return " ".join([word] + (row_words(shown) if word == "parted" else []))


def make_least(desk, words):
    """least NAME TABLE."""
    check_count(words, 2)
    name, table = name_by(words[0]), table_named(desk, words[1])
    desk.tables[name] = least_table(table)
    return DONE


def tell_wish(desk, words):
    """wish TABLE PORT THING."""
    check_count(words, 3)
    table, wish = table_named(desk, words[0]), (name_by(words[1]), thing_by(words[2]))
    if wish[0] not in table[0]:
        raise NoRow("the table doesn't see this port")
    paper = wish_paper(table, wish)
    walk = paper[1] if paper[0] == "waits" else ()
    return " ".join([paper[0]] + row_words([moment for moment, stand in walk]))


def tell_lines(desk, words):
    """lines NAME."""
    check_count(words, 1)
    return "\n".join(table_lines(table_named(desk, words[0])))


TAKES = {"net": take_net, "table": take_table}
ANSWERS = {
    "make": make_table,
    "build": build_net,
    "may": tell_may,
    "alike": tell_alike,
    "least": make_least,
    "wish": tell_wish,
    "lines": tell_lines,
}


class Desk:
    """Has nets and tables by names."""

    def __init__(self):
        self.nets = {}
        self.tables = {}

    def say(self, row):
        """Answer a row, or NoRow, or as what it asks for is refused."""
        first, *lines = row.split("\n")
        word, *others = first.split(" ")
        if word in TAKES:
            take = TAKES[word]
            return take(self, others, lines)
        # Only nets and tables have lines.
        if word not in ANSWERS or lines:
            raise NoRow("there is no such row")
        answer = ANSWERS[word]
        return answer(self, others)
