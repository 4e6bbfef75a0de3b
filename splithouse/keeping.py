"""Rules looked at part by part."""

from splithouse.covers import cover
from splithouse.errors import TooMany
from splithouse.filled import MOST_PARTS
from splithouse.follows import settled
from splithouse.keys import holds_one, keys
from splithouse.sets import columns_of, is_within, sets_within


def own_rules(many, rules, part):
    """The settling rules of one column each that follow within the part, none of whose lefts could be less."""
    found = []
    lefts = dict([(column, []) for column in columns_of(part)])
    for some in sets_within(part):
        for column in columns_of(settled(many, rules, some) & part & ~some):
            # A set comes behind all sets within it, so a lesser left for the column would be among those found.
            if not holds_one(some, lefts[column]):
                lefts[column].append(some)
                found.append(("settle", some, 1 << column))
    return found


def first_gain(many, rules, parts, some):
    """The number of the first part that gains columns for the set, with the columns gained, or None."""
    for number, part in enumerate(parts):
        gained = settled(many, rules, some & part) & part & ~some
        if gained != 0:
            return (number, gained)
    return None


def part_by_part(many, rules, parts, rule):
    """The word yes with the gains that show it, or the word no with the set come to."""
    if len(parts) == 0 or len(parts) > MOST_PARTS:
        raise TooMany(f"no parts, or more than {MOST_PARTS}")
    reached = rule[1]
    gains = []
    gain = first_gain(many, rules, parts, reached)
    while gain is not None:
        gains.append(gain)
        reached = reached | gain[1]
        # What is gained may let a part ahead gain more, so parts are looked through from the first again.
        gain = first_gain(many, rules, parts, reached)
    if is_within(rule[2], reached):
        return ("yes", gains)
    return ("no", reached)


def parts_by_left(rules):
    """A part for each left of the rules: its columns and those of the rights of all rules with it."""
    parts = {}
    for rule in rules:
        parts[rule[1]] = parts.get(rule[1], rule[1]) | rule[2]
    return list(parts.values())


def with_a_key(parts, found):
    """The parts, the first of the found keys put at the end where no part holds one of them."""
    if any([holds_one(part, found) for part in parts]):
        return parts
    return parts + [found[0]]


def without_inner(parts):
    """The parts, those left out, from the first on, that lie within another one that is still there."""
    left = list(parts)
    at = 0
    while at < len(left):
        others = left[:at] + left[at + 1:]
        if any([is_within(left[at], other) for other in others]):
            left = others
        else:
            at += 1
    return left


def parts_by_cover(many, rules):
    """The parts that the lefts of the cover of the settling rules tell, with a key among them."""
    settling = [rule for rule in rules if rule[0] == "settle"]
    parts = with_a_key(parts_by_left(cover(many, settling)), keys(many, settling))
    left = without_inner(parts)
    if len(left) > MOST_PARTS:
        raise TooMany(f"more than {MOST_PARTS} parts by the cover")
    return left
