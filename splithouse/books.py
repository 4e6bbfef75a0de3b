"""Books of rows, and whether they keep rules."""

from splithouse.sets import all_of, columns_of, has_column


def alike(one, other, some):
    """Whether two rows have the same numbers at all columns of the set."""
    return all([one[column] == other[column] for column in columns_of(some)])


def mixed(one, other, some):
    """The row with the one's numbers at the columns of the set, the other's elsewhere."""
    return tuple([one[column] if has_column(some, column) else other[column] for column in range(len(one))])


def noughts(many):
    """The row of noughts alone."""
    return (0,) * many


def seen_row(row, part):
    """The row with 0 at all columns that the part has not."""
    return mixed(row, noughts(len(row)), part)


def groups_on(book, some):
    """A dict of lists of those rows that are alike on the set, each under what is seen of them there."""
    groups = {}
    for row in book:
        groups.setdefault(seen_row(row, some), []).append(row)
    return groups


def firsts_on(book, some):
    """The first row of each group of rows that are alike on the set."""
    return [rows[0] for rows in groups_on(book, some).values()]


def settle_breach(book, left, right):
    """Two rows alike on the left and unlike on the right, or None."""
    for rows in groups_on(book, left).values():
        for row in rows:
            if not alike(rows[0], row, right):
                return (rows[0], row)
    return None


def lacking_mix(rows, held):
    """Two of the rows whose row mixed at the held columns is not among the rows, or None."""
    there = dict([(row, True) for row in rows])
    rest = all_of(len(rows[0])) & ~held
    # Rows alike on what is taken of them mix to the same row, so the first of each such group stands for it.
    # Then no two tries give the same row, and the first lacking one comes after no more tries than there are rows.
    others = firsts_on(rows, rest)
    for one in firsts_on(rows, held):
        for other in others:
            if mixed(one, other, held) not in there:
                return (one, other)
    return None


def deal_breach(book, left, right):
    """Two rows alike on the left whose mixed row the book lacks, or None."""
    for rows in groups_on(book, left).values():
        # A row mixed of two rows of a group is alike with them on the left, so it is looked for in the group alone.
        found = lacking_mix(rows, left | right)
        if found is not None:
            return found
    return None


def breach(book, rule):
    """A tuple of two rows of the book that show that it does not keep the rule, or None."""
    if rule[0] == "settle":
        return settle_breach(book, rule[1], rule[2])
    return deal_breach(book, rule[1], rule[2])


def keeps(book, rules):
    """Whether the book keeps all the rules."""
    for rule in rules:
        if breach(book, rule) is not None:
            return False
    return True


def book_of(many, some):
    """The book of the set: a row of noughts, and one with 1 at the set's columns, where it has some."""
    if some == 0:
        return [noughts(many)]
    return [noughts(many), mixed((1,) * many, noughts(many), some)]


def seen_on(book, part):
    """The rows with 0 at all columns that the part has not, each once, in order."""
    return sorted(set([seen_row(row, part) for row in book]))


def put_together(one, part, other, beside):
    """All rows mixed of a row of the one book seen on its part and a row of the other that is alike where both see."""
    both = part & beside
    matches = groups_on(seen_on(other, beside), both)
    found = []
    for row in seen_on(one, part):
        for match in matches.get(seen_row(row, both), []):
            # The mixed row shows both rows that it is made of, so none is found twice.
            found.append(mixed(row, match, part))
    return sorted(found)
