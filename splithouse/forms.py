"""Tables cut on what they tell twice, until no part tells anything twice."""

from splithouse.books import put_together, seen_on
from splithouse.errors import TooMany
from splithouse.sets import all_of, is_within, with_one_more
from splithouse.unfold import unfolded

MOST_TREE_PARTS = 60


def told_again(many, rules, part, some):
    """The columns of the part that the set within it tells twice there, or None where it tells none."""
    told = unfolded(many, rules, some)
    if is_within(part, told[0]):
        return None
    gained = part & told[0] & ~some
    if gained != 0:
        return gained
    pieces = [block & part for block in told[1] if (block & part) != 0]
    if len(pieces) > 1:
        return pieces[0]
    return None


def twice(many, rules, part):
    """The first set that tells twice in the part, with the columns it tells twice, or None."""
    # Sets with more columns are made only where no lesser one tells twice, so the first is soon found in a wide part.
    level = [0]
    while level != []:
        for some in level:
            again = told_again(many, rules, part, some)
            if again is not None:
                return (some, again)
        level = with_one_more(level, part)
    return None


def tree_of(many, rules, part):
    """The tree of the part."""
    found = twice(many, rules, part)
    if found is None:
        return ("whole", part)
    one = tree_of(many, rules, found[0] | found[1])
    other = tree_of(many, rules, part & ~found[1])
    return ("cut", part, found[0], found[1], one, other)


def count_parts(tree):
    """How many parts the tree has, whole and cut ones together."""
    if tree[0] == "whole":
        return 1
    return 1 + count_parts(tree[4]) + count_parts(tree[5])


def cut_tree(many, rules):
    """The tree of all columns."""
    tree = tree_of(many, rules, all_of(many))
    if count_parts(tree) > MOST_TREE_PARTS:
        raise TooMany(f"a tree of more than {MOST_TREE_PARTS} parts")
    return tree


def leaves(tree):
    """The whole parts of the tree, from left to right."""
    if tree[0] == "whole":
        return [tree[1]]
    return leaves(tree[4]) + leaves(tree[5])


def grown(book, tree):
    """The book that comes of the book seen on the whole parts, put together up the tree."""
    if tree[0] == "whole":
        return seen_on(book, tree[1])
    one = tree[4]
    other = tree[5]
    return put_together(grown(book, one), one[1], grown(book, other), other[1])
