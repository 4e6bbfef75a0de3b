"""Least rules that say the same as told ones."""

from splithouse.follows import does_follow
from splithouse.sets import columns_of


def single_rules(rules):
    """Settling rules with one column at each right, that their left has not; behind them the dealing rules."""
    settling = []
    for rule in rules:
        if rule[0] == "settle":
            settling.extend([("settle", rule[1], 1 << column) for column in columns_of(rule[2] & ~rule[1])])
    return settling + [rule for rule in rules if rule[0] == "deal"]


def with_least_lefts(many, rules):
    """The rules, those columns left out at the lefts of settling ones that can be."""
    least = list(rules)
    for at, rule in enumerate(rules):
        if rule[0] == "settle":
            for column in columns_of(rule[1]):
                shorter = ("settle", least[at][1] & ~(1 << column), rule[2])
                if does_follow(many, least, shorter):
                    least[at] = shorter
    return least


def without_needless(many, rules):
    """The rules, those left out, from the first on, that follow from the others that are still there."""
    left = list(rules)
    at = 0
    while at < len(left):
        others = left[:at] + left[at + 1:]
        if does_follow(many, others, left[at]):
            left = others
        else:
            at += 1
    return left


def cover(many, rules):
    """The least rules, in their order."""
    return without_needless(many, with_least_lefts(many, single_rules(rules)))
