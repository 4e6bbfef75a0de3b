"""What follows from rules, and whether a paper shows that a rule follows or that it does not."""

from splithouse.books import book_of, keeps
from splithouse.unfold import can_use, unfolded, walked


def first_breaking(rule, blocks):
    """The first block whose book breaks the rule, or None."""
    for block in blocks:
        # Point 8 asks of a book that breaks a rule just what point 10 asks of a block where it can be used.
        if can_use(rule, block):
            return block
    return None


def follows(many, rules, rule):
    """The paper for the rule: the word yes with steps, or the word no with a block whose book breaks the rule."""
    told = unfolded(many, rules, rule[1])
    block = first_breaking(rule, told[1])
    if block is None:
        return ("yes", told[2])
    return ("no", block)


def does_follow(many, rules, rule):
    """Whether the rule follows from the rules."""
    return follows(many, rules, rule)[0] == "yes"


def are_right_steps(many, rules, rule, steps):
    """Whether the steps can be walked from the rule's left on, to blocks of which none breaks the rule."""
    now = walked(many, rules, rule[1], steps)
    return now is not None and first_breaking(rule, now[1]) is None


def is_right(many, rules, rule, paper):
    """Whether the paper shows what it says of the rule."""
    if paper[0] == "yes":
        return are_right_steps(many, rules, rule, paper[1])
    # The set need be no block of any unfolding, so its book itself is asked.
    book = book_of(many, paper[1])
    return keeps(book, rules) and not keeps(book, [rule])


def settled(many, rules, some):
    """The columns that are fixed when the set is unfolded by the rules."""
    return unfolded(many, rules, some)[0]
