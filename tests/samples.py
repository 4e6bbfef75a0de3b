"""Rows, books and rules for the tests, the same at each run, and the document's own words put as plain checks."""

import random

BIG = 10 ** 60 - 1


def sample_source(seed):
    return random.Random(seed)


def sample_book(source, many, rows, numbers=(0, 1)):
    """As many rows as told, perhaps some of them alike."""
    return [tuple(source.choice(numbers) for column in range(many)) for row in range(rows)]


def sample_rule(source, many):
    return (source.choice(("settle", "deal")), source.randrange(2 ** many), source.randrange(2 ** many))


def columns(some):
    return {column for column in range(some.bit_length()) if some & 2 ** column}


def plain_alike(one, other, some):
    return all(one[column] == other[column] for column in columns(some))


def plain_mixed(one, other, some):
    return tuple(one[k] if k in columns(some) else other[k] for k in range(len(one)))


def plain_breaches(book, rule):
    """All tuples (one, other) that show that the book does not keep the rule."""
    word, left, right = rule
    pairs = [(one, other) for one in book for other in book if plain_alike(one, other, left)]
    if word == "settle":
        return [(one, other) for one, other in pairs if not plain_alike(one, other, right)]
    return [(one, other) for one, other in pairs if plain_mixed(one, other, left | right) not in book]


def plain_seen(book, part):
    return sorted({tuple(row[k] if k in columns(part) else 0 for k in range(len(row))) for row in book})


def plain_together(one, part, other, beside):
    """The rows of point 9, found by trying each row of the one with each of the other."""
    found = set()
    for first in one:
        for second in other:
            if plain_alike(first, second, part & beside):
                found.update(plain_seen([plain_mixed(first, second, part)], part | beside))
    return sorted(found)
