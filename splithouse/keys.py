"""Keys: least sets that settle all columns."""

from splithouse.follows import settled
from splithouse.sets import all_of, is_within, sets_within


def holds_one(some, found):
    """Whether one of the found sets lies within the set."""
    return any([is_within(inner, some) for inner in found])


def keys(many, rules):
    """The sets that settle all columns and of which no column can be left out, in the order of sets."""
    whole = all_of(many)
    found = []
    for some in sets_within(whole):
        # A set comes behind all sets within it, so one that settles all and holds no key found so far is a key.
        if not holds_one(some, found) and settled(many, rules, some) == whole:
            found.append(some)
    return found
