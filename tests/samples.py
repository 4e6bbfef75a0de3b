"""Rows, books and rules for the tests, the same at each run, and the document's own words put as plain checks."""

import itertools
import random

from splithouse.sets import turned

BIG = 10 ** 60 - 1

LETTERS = "abcdefghijklmnopqrstuvwxyz"


def sample_source(seed):
    return random.Random(seed)


def sample_book(source, many, rows, numbers=(0, 1)):
    """As many rows as told, perhaps some of them alike."""
    return [tuple(source.choice(numbers) for column in range(many)) for row in range(rows)]


def sample_rule(source, many):
    return (source.choice(("settle", "deal")), source.randrange(2 ** many), source.randrange(2 ** many))


def columns(some):
    return {column for column in range(some.bit_length()) if some & 2 ** column}


def plain_alike(one, other, some):
    return all(one[column] == other[column] for column in columns(some))


def plain_mixed(one, other, some):
    return tuple(one[k] if k in columns(some) else other[k] for k in range(len(one)))


def plain_breaches(book, rule):
    """All tuples (one, other) that show that the book does not keep the rule."""
    word, left, right = rule
    pairs = [(one, other) for one in book for other in book if plain_alike(one, other, left)]
    if word == "settle":
        return [(one, other) for one, other in pairs if not plain_alike(one, other, right)]
    return [(one, other) for one, other in pairs if plain_mixed(one, other, left | right) not in book]


def plain_seen(book, part):
    return sorted({tuple(row[k] if k in columns(part) else 0 for k in range(len(row))) for row in book})


def plain_together(one, part, other, beside):
    """The rows of point 9, found by trying each row of the one with each of the other."""
    found = set()
    for first in one:
        for second in other:
            if plain_alike(first, second, part & beside):
                found.update(plain_seen([plain_mixed(first, second, part)], part | beside))
    return sorted(found)


def plain_keeps(book, rules):
    return not any(plain_breaches(book, rule) for rule in rules)


def plain_book(many, some):
    """The book of point 8."""
    return sorted({(0,) * many, tuple(int(k in columns(some)) for k in range(many))})


def set_keeps(some, rule):
    """Whether the book of the set keeps the rule, by the words of point 8."""
    word, left, right = rule[0], columns(rule[1]), columns(rule[2])
    if left & columns(some):
        return True
    if word == "settle":
        return not right & columns(some)
    return not right & columns(some) or columns(some) <= right


def keeping_sets(many, rules):
    """The sets whose books keep all the rules."""
    return [some for some in range(2 ** many) if all(set_keeps(some, rule) for rule in rules)]


def plain_follows(many, rules, rule):
    """Whether each book of a set that keeps the rules keeps the rule."""
    return all(set_keeps(some, rule) for some in keeping_sets(many, rules))


def sample_rules(source, many, most):
    """Up to so many rules, with few columns at each left, so that they can often be used."""
    told = []
    for turn in range(source.randrange(most + 1)):
        word, left, right = sample_rule(source, many)
        told.append((word, left & source.randrange(2 ** many), right))
    return told


def narrow_rules(source, many, count):
    """So many rules, mostly settling ones, with one up to three columns at the left and one or two at the right."""
    told = []
    for turn in range(count):
        left = source.sample(range(many), min(many, source.randrange(1, 4)))
        right = source.sample(range(many), min(many, source.randrange(1, 3)))
        word = source.choice(("settle", "settle", "settle", "deal"))
        told.append((word, sum(2 ** k for k in left), sum(2 ** k for k in right)))
    return told


def mend(book, rule):
    """The set of rows with one breach of the rule mended: two numbers made one, or the row that is lacking put in."""
    one, other = plain_breaches(book, rule)[0]
    if rule[0] == "deal":
        return book | {plain_mixed(one, other, rule[1] | rule[2])}
    column = min(k for k in columns(rule[2]) if one[k] != other[k])
    low, high = sorted((one[column], other[column]))
    return {row[:column] + (low if row[column] == high else row[column],) + row[column + 1:] for row in book}


def keeping_book(book, rules):
    """A book that keeps the rules, grown out of another one."""
    grown = set(book)
    broken = [rule for rule in rules if plain_breaches(grown, rule)]
    while broken:
        grown = mend(grown, broken[0])
        broken = [rule for rule in rules if plain_breaches(grown, rule)]
    return sorted(grown)


def all_cuts(many):
    """Each two parts that have all columns together."""
    whole = 2 ** many - 1
    return [(one, other) for one in range(whole + 1) for other in range(whole + 1) if one | other == whole]


def sample_cut(source, many):
    """Two parts that have all columns together, some of them perhaps in both."""
    one = source.randrange(2 ** many)
    return one, 2 ** many - 1 - one | one & source.randrange(2 ** many)


def put_again(book, parts):
    """The book cut in the parts, and these put together one after another."""
    together, seen = plain_seen(book, parts[0]), parts[0]
    for part in parts[1:]:
        together = plain_together(together, seen, plain_seen(book, part), part)
        seen |= part
    return together


def all_books(many):
    """Each book of rows of noughts and ones."""
    rows = list(itertools.product((0, 1), repeat=many))
    return [[row for k, row in enumerate(rows) if chosen & 2 ** k] for chosen in range(2 ** len(rows))]


def turned_rules(rules, order):
    """The rules of the columns put in another order."""
    return [(word, turned(left, order), turned(right, order)) for word, left, right in rules]


def sample_order(source, many):
    return source.sample(range(many), many)


class PlainUnfolding:
    """Points 10 and 11 over Python's own sets, in the words of the document."""

    def __init__(self, many, rules, some):
        rest = set(range(many)) - columns(some)
        self.rules = [(word, columns(left), columns(right)) for word, left, right in rules]
        self.fixed, self.blocks, self.steps = columns(some), [rest] if rest else [], []

    def uses(self):
        for k, (word, left, right) in enumerate(self.rules):
            for at, block in enumerate(self.blocks):
                if not left & block and right & block and (word == "settle" or block - right):
                    yield k, at

    def use(self, k, at):
        word, left, right = self.rules[k]
        block = self.blocks[at]
        self.steps.append((k, sum(2 ** column for column in block)))
        if word == "settle":
            self.fixed = self.fixed | (block & right)
            self.blocks[at:at + 1] = [block - right] if block - right else []
        else:
            self.blocks[at:at + 1] = [block & right, block - right]

    def run(self, choose=lambda uses: uses[0]):
        uses = list(self.uses())
        while uses:
            self.use(*choose(uses))
            uses = list(self.uses())
        return self

    def state(self):
        return (sum(2 ** k for k in self.fixed), [sum(2 ** k for k in block) for block in self.blocks])

    def told(self):
        return self.state() + (self.steps,)


def in_order(sets):
    """Sets in the order of point 2."""
    return sorted(sets, key=lambda some: (len(columns(some)), some))


def plain_sets_within(some):
    return in_order(inner for inner in range(some + 1) if columns(inner) <= columns(some))


def settling(rules):
    return [rule for rule in rules if rule[0] == "settle"]


def told_rule(source, many):
    """A rule with a column at its right."""
    word, left, right = sample_rule(source, many)
    return (word, left, right or 2 ** source.randrange(many))


def sample_names(source, many):
    names = []
    while len(names) < many:
        name = "".join(source.choice(LETTERS) for turn in range(source.randrange(1, 9)))
        if name not in names + ["settle", "deal"]:
            names.append(name)
    return names


def plain_line(names, rule):
    """The line of point 29 that tells the rule."""
    word, left, right = rule
    return " ".join([names[k] for k in sorted(columns(left))] + [word] + [names[k] for k in sorted(columns(right))])
