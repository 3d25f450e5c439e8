"""Tables written as lines, and lines read as tables."""

from mannerports.errors import NoText
from mannerports.figures import number_by
from mannerports.tables import is_table, is_table_step


def table_lines(table):
    """The lines that write a table."""
    seen, many, steps = table
    return [" ".join(["table", str(many)] + list(seen))] + [step_line(step) for step in steps]


def step_line(step):
    """The line that writes a step."""
    begin, moment, end = step
    words = ["step", str(begin), str(end)]
    for port, thing in moment:
        words.extend([port, str(thing)])
    return " ".join(words)


def read_table(lines):
    """The table that a list of texts writes, or NoText."""
    if not lines:
        raise NoText(0)
    # Split by one blank each, so that a blank too many leaves an empty word, which is none.
    table = table_begun(lines[0].split(" "))
    if not is_table(table):
        raise NoText(0)
    seen, many = table[:2]
    steps = []
    for row, line in enumerate(lines[1:], start=1):
        step = step_by(line.split(" "))
        if not is_table_step(seen, many, step) or steps and step <= steps[-1]:
            raise NoText(row)
        steps.append(step)
    return (seen, many, tuple(steps))


def table_begun(words):
    """The table without steps that the words of a first line write; it is one only if the line is right."""
    if len(words) < 2 or words[0] != "table":
        return None
    return (tuple(words[2:]), number_by(words[1]), ())


def step_by(words):
    """The step that the words of a line write; it is one only if the line is right."""
    if len(words) < 3 or len(words) % 2 == 0 or words[0] != "step":
        return None
    things = [number_by(word) for word in words[4::2]]
    return (number_by(words[1]), tuple(zip(words[3::2], things)), number_by(words[2]))
