"""Sets of columns, told as whole numbers: the column k is the bit k of the number."""


def has_column(some, column):
    """Whether the set has the column."""
    return ((some >> column) & 1) == 1


def columns_of(some):
    """The columns of the set, as a rising list."""
    return [column for column in range(some.bit_length()) if has_column(some, column)]


def size_of(some):
    """How many columns the set has."""
    return len(columns_of(some))


def all_of(many):
    """The set of all columns."""
    return (1 << many) - 1


def is_within(one, other):
    """Whether the one set has no column that the other has not."""
    return (one & other) == one


def with_one_more(sets, some):
    """The sets that come of these by one column of the set more, above all that they have, by their numbers."""
    found = []
    for inner in sets:
        found.extend([inner | (1 << column) for column in columns_of(some) if (1 << column) > inner])
    return sorted(found)


def sets_within(some):
    """All sets within the set, those with fewer columns first, those with as many by their numbers."""
    found = []
    level = [0]
    while level != []:
        found.extend(level)
        level = with_one_more(level, some)
    return found


def turned(some, order):
    """The set that has the column order[k] for each column k of the set."""
    return sum([1 << order[column] for column in columns_of(some)])
