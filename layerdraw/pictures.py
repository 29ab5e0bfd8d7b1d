"""Pictures: rows of items drawn as a text, the text read back, and the strokes of the lines."""

from layerdraw.errors import NoLine, TooLong
from layerdraw.levels import marks_of
from layerdraw.nets import in_range, is_name
from layerdraw.sideways import marks_in_line

COLUMNS = 10
GREATEST_PLACE = 200
POINT = "."


def drawn_row(row, places):
    line = ""
    for item in row:
        line = line.ljust(COLUMNS * places[item.label()]) + item.drawn()
    return line


def picture(rows, places):
    if not all([in_range(places[mark], 0, GREATEST_PLACE) for mark in marks_in_line(marks_of(rows))]):
        raise TooLong()
    return "\n".join([drawn_row(row, places) for row in rows])


def words_with_columns(line):
    found = []
    column = 0
    for word in line.split(" "):
        # Between two blanks side by side there is no word.
        if word != "":
            found.append((word, column))
        column += len(word) + 1
    return found


def is_picture_line(line):
    if line.endswith(" "):
        return False
    return all([
        (is_name(word) or word == POINT) and column % COLUMNS == 0
        for word, column in words_with_columns(line)
    ])


def read_picture(text):
    rows = []
    for number, line in enumerate(text.split("\n")):
        if not is_picture_line(line):
            raise NoLine(number)
        rows.append([(word, column // COLUMNS) for word, column in words_with_columns(line)])
    return rows


def strokes(rows, lines, places):
    levels = {}
    for level, row in enumerate(marks_of(rows)):
        levels.update([(mark, level) for mark in row])
    return [
        (places[upper], levels[upper], places[lower], levels[lower])
        for upper, lower, weight in lines
    ]
