"""Tables cut in two parts."""

from splithouse.errors import NoCut
from splithouse.sets import all_of, is_within
from splithouse.unfold import unfolded


def first_torn(blocks, one, other):
    """The first block of which some columns are not in the one part and some not in the other, or None."""
    for block in blocks:
        if not is_within(block, one) and not is_within(block, other):
            return block
    return None


def cut_in_two(many, rules, one, other):
    """The word safe with the steps that show it, or the word unsafe with a block whose book gains a row."""
    if not is_within(all_of(many), one | other):
        raise NoCut("the two parts leave a column out")
    told = unfolded(many, rules, one & other)
    block = first_torn(told[1], one, other)
    if block is None:
        return ("safe", told[2])
    return ("unsafe", block)
