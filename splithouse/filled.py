"""Tables cut in several parts, by the settling rules alone: the filled table, and whether the cut is safe."""

from splithouse.books import alike, mixed, noughts
from splithouse.errors import NoCut, TooMany
from splithouse.sets import all_of, columns_of, is_within

MOST_PARTS = 10


def check_parts(many, parts):
    """Refuse parts that are too many, or that leave a column out."""
    if len(parts) > MOST_PARTS:
        raise TooMany(f"more than {MOST_PARTS} parts")
    together = 0
    for part in parts:
        together = together | part
    if not is_within(all_of(many), together):
        raise NoCut("the parts leave a column out")


def begun_table(many, parts):
    """The table ahead of the first step: a row for each part, 0 at its columns, the row's number elsewhere."""
    return [mixed(noughts(many), (number,) * many, part) for number, part in enumerate(parts, start=1)]


def first_unlike(one, other, some):
    """The least column of the set at which the two rows are unlike, or None."""
    for column in columns_of(some):
        if one[column] != other[column]:
            return column
    return None


def first_place(rows, rule):
    """The numbers of the first two rows for which the settling rule can be used, and the column, or None."""
    for first, one in enumerate(rows):
        for second in range(first + 1, len(rows)):
            if alike(one, rows[second], rule[1]):
                column = first_unlike(one, rows[second], rule[2])
                if column is not None:
                    return (first, second, column)
    return None


def first_step(rules, rows):
    """The next filling step, or None."""
    for number, rule in enumerate(rules):
        if rule[0] == "settle":
            place = first_place(rows, rule)
            if place is not None:
                return (number,) + place
    return None


def with_number(row, column, number):
    """The row with another number at the column."""
    return row[:column] + (number,) + row[column + 1:]


def made_alike(rows, first, second, column):
    """The table in which the lesser number of two rows at the column stands for the greater one everywhere there."""
    lesser = min(rows[first][column], rows[second][column])
    greater = max(rows[first][column], rows[second][column])
    return [with_number(row, column, lesser) if row[column] == greater else row for row in rows]


def filled(many, rules, parts):
    """The filled table of the parts, and the steps by which it came."""
    check_parts(many, parts)
    rows = begun_table(many, parts)
    steps = []
    step = first_step(rules, rows)
    while step is not None:
        steps.append(step)
        rows = made_alike(rows, step[1], step[2], step[3])
        # Rows made alike may be alike on the left of a rule ahead, so rules are looked through from the first again.
        step = first_step(rules, rows)
    return (rows, steps)


def is_safe(many, rules, parts):
    """Whether the cut loses nothing of any book that keeps the settling rules."""
    return noughts(many) in filled(many, rules, parts)[0]
