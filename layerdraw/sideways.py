"""Sideways: places of marks in rows that keep a gap and cost the least, and how much a line weighs."""

from layerdraw.errors import TooMany
from layerdraw.items import Small
from layerdraw.laying import laid

MOST_MARKS = 40
MOST_LINES = 40

# By how many of a piece's two ends are small ones.
HEAVIER = (1, 2, 8)


def apart(halves, gap, left, right):
    return halves[left] + halves[right] + gap


def neighbours(rows):
    """Tells the tuples (left, right) of marks that stand side by side, row by row."""
    found = []
    for row in rows:
        found.extend([(left, right) for left, right in zip(row, row[1:])])
    return found


def keeps_gap(rows, halves, gap, places):
    return all([
        places[right] - places[left] >= apart(halves, gap, left, right)
        for left, right in neighbours(rows)
    ])


def cost_of(lines, places):
    return sum([weight * abs(places[other] - places[one]) for one, other, weight in lines])


def marks_in_line(rows):
    """Tells all marks, row by row, in one list: a mark's place in it is its point's number."""
    marks = []
    for row in rows:
        marks.extend(row)
    return marks


def asked(rows, halves, lines, gap):
    marks = marks_in_line(rows)
    if len(marks) > MOST_MARKS or len(lines) > MOST_LINES:
        raise TooMany()
    numbers = dict([(mark, number) for number, mark in enumerate(marks)])
    wishes = [
        (numbers[left], numbers[right], apart(halves, gap, left, right), 0)
        for left, right in neighbours(rows)
    ]
    for helper, line in enumerate(lines, start=len(marks)):
        wishes.append((helper, numbers[line[0]], 0, line[2]))
        wishes.append((helper, numbers[line[1]], 0, line[2]))
    return (len(marks) + len(lines), wishes)


def sideways(rows, halves, lines, gap):
    question = asked(rows, halves, lines, gap)
    answer = laid(question[0], question[1])
    # The helpers' places, behind those of the marks, are left out.
    return (dict(zip(marks_in_line(rows), answer[0])), answer[1])


def heavy(one, other, weight):
    return weight * HEAVIER[len([item for item in (one, other) if isinstance(item, Small)])]
