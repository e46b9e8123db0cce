"""Texts: bodies and handlers written line by line, and read again."""

from askfurther.bodies import Body
from askfurther.errors import NoText
from askfurther.forms import is_name
from askfurther.handlers import Handler

FIGURES = "0123456789"
MOST_FIGURES = 30
BLANKS = "  "


def body_text(body):
    """The text of a body."""
    machine = body.machine
    lines = [counts_line("operations", machine.counts), f"start {machine.begin}"]
    return text_of(lines + rows_lines("", machine.lines))


def handler_text(handler):
    """The text of a handler."""
    keeper = handler.keeper
    lines = [counts_line("handled", keeper.counts), counts_line("further", keeper.outside), f"start {keeper.begin}"]
    for word, table in (("clause", handler.clauses()), ("end", handler.ends())):
        for state, name in sorted(table):
            lines.append(f"{word} {state} {name}")
            lines.extend(rows_lines(BLANKS, table[(state, name)]))
    return text_of(lines)


def text_of(lines):
    """The lines in one text, a line feed behind each one."""
    return "".join([line + "\n" for line in lines])


def counts_line(word, counts):
    """The line for operations."""
    told = ", ".join([f"{operation} {counts[operation]}" for operation in sorted(counts)])
    return f"{word} {told}" if counts else word


def rows_lines(ahead, rows):
    """A line for each row, with its index and this ahead."""
    return [f"{ahead}{index} {row_text(row)}" for index, row in enumerate(rows)]


def row_text(row):
    """A row as its word, names and numbers with blanks between."""
    if row[0] == "ask":
        return " ".join(["ask", row[1]] + [str(index) for index in row[2]])
    return " ".join([str(part) for part in row])


def read_body(text):
    """The body that a text tells."""
    lines = lines_of(text)
    counts = told_at(lines, 0, lambda line: counts_told(line, "operations"))
    start = told_at(lines, 1, number_of_start)
    rows = []
    for place in range(2, len(lines)):
        rows.append(told_at(lines, place, lambda line: row_told(line, len(rows))))
    return Body(counts, rows, start=start)


def read_handler(text):
    """The handler that a text tells."""
    lines = lines_of(text)
    handles = told_at(lines, 0, lambda line: counts_told(line, "handled"))
    further = told_at(lines, 1, lambda line: counts_told(line, "further"))
    start = told_at(lines, 2, name_of_start)
    tables = {"clause": {}, "end": {}}
    rows = None
    for place in range(3, len(lines)):
        if rows is not None and lines[place].startswith(BLANKS):
            rows.append(told_at(lines, place, lambda line: row_told(line[len(BLANKS):], len(rows))))
        else:
            word, at = told_at(lines, place, lambda line: clause_told(line, tables))
            rows = []
            tables[word][at] = rows
    return Handler(handles, further, start, tables["clause"], tables["end"])


def lines_of(text):
    """The lines of a text; the line feed behind the last one may be missing."""
    if not isinstance(text, str):
        raise NoText(-1)
    lines = text.split("\n")
    if lines[-1] == "":
        lines.pop()
    return lines


def told_at(lines, place, told):
    """What the line at this place tells, as the function reads it: None if it is not as it must be, or missing."""
    found = told(lines[place]) if place < len(lines) else None
    if found is None:
        raise NoText(place + 1)
    return found


def counts_told(line, word):
    """The operations that a line with this word tells."""
    if line == word:
        return {}
    if not line.startswith(word + " "):
        return None
    counts = {}
    for part in line[len(word) + 1:].split(", "):
        words = part.split(" ")
        if len(words) != 2 or not is_name(words[0]) or not is_number(words[1]) or words[0] in counts:
            return None
        counts[words[0]] = int(words[1])
    return counts


def is_number(text):
    """Whether it is a number of at most 30 figures, without a figure 0 ahead."""
    if not 1 <= len(text) <= MOST_FIGURES or not all([letter in FIGURES for letter in text]):
        return False
    return text == "0" or text[0] != "0"


def number_of_start(line):
    """The number that the line for the start of a body tells."""
    words = line.split(" ")
    if len(words) == 2 and words[0] == "start" and is_number(words[1]):
        return int(words[1])
    return None


def name_of_start(line):
    """The name that the line for the start of a handler tells."""
    words = line.split(" ")
    if len(words) == 2 and words[0] == "start" and is_name(words[1]):
        return words[1]
    return None


def row_told(line, index):
    """The row that a line tells, with this index ahead."""
    words = line.split(" ")
    if len(words) < 3 or words[0] != str(index):
        return None
    word, told = words[1], words[2:]
    if word == "ask" and is_name(told[0]) and all([is_number(number) for number in told[1:]]):
        return ("ask", told[0], tuple([int(number) for number in told[1:]]))
    if word in ("end", "finish") and len(told) == 1 and is_name(told[0]):
        return (word, told[0])
    if word == "go" and len(told) == 1 and is_number(told[0]):
        return ("go", int(told[0]))
    if word == "answer" and len(told) == 2 and is_number(told[0]) and is_name(told[1]):
        return ("answer", int(told[0]), told[1])
    return None


def clause_told(line, tables):
    """The word, state and name with which a line begins a clause that was not told ahead; ends come behind."""
    words = line.split(" ")
    if len(words) != 3 or words[0] not in tables or not is_name(words[1]) or not is_name(words[2]):
        return None
    at = (words[1], words[2])
    if at in tables[words[0]] or words[0] == "clause" and tables["end"]:
        return None
    return (words[0], at)
