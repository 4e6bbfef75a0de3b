"""Tables and sets of columns as texts."""

from splithouse.errors import NoSet, NoText
from splithouse.sets import columns_of

MOST_COLUMNS = 7

MOST_RULES = 12

LONGEST_NAME = 8

LETTERS = "abcdefghijklmnopqrstuvwxyz"

RULE_WORDS = ("settle", "deal")


def is_name(word):
    """Whether a column may be called so."""
    if word == "" or len(word) > LONGEST_NAME or word in RULE_WORDS:
        return False
    return all([sign in LETTERS for sign in word])


def are_names(words):
    """Whether the columns of a table may be called so."""
    if words == [] or len(words) > MOST_COLUMNS or len(set(words)) < len(words):
        return False
    return all([is_name(word) for word in words])


def set_named(names, words):
    """The set of the columns with these names, or None where the words are not names in their order, each once."""
    some = 0
    for word in words:
        if word not in names:
            return None
        column = names.index(word)
        # Columns in their order, each once, are all above those that the set has.
        if (1 << column) <= some:
            return None
        some = some | (1 << column)
    return some


def names_in(names, some):
    """The names of the columns of the set, in their order."""
    return [names[column] for column in columns_of(some)]


def first_rule_word(words):
    """The number of the first word that tells which rule it is, or None."""
    for at, word in enumerate(words):
        if word in RULE_WORDS:
            return at
    return None


def read_names(line):
    """The names of the columns that the line tells, or None where it does not fit."""
    words = line.split(" ")
    if words[0] != "columns" or not are_names(words[1:]):
        return None
    return words[1:]


def read_rule(names, line):
    """The rule that the line tells, or None where it does not fit."""
    words = line.split(" ")
    at = first_rule_word(words)
    if at is None:
        return None
    left = set_named(names, words[:at])
    right = set_named(names, words[at + 1:])
    if left is None or right is None or right == 0:
        return None
    return (words[at], left, right)


def read(text):
    """The names of the columns and the rules that the text tells."""
    if not isinstance(text, str):
        raise NoText(0)
    lines = text.split("\n")
    names = read_names(lines[0])
    if names is None:
        raise NoText(0)
    rules = []
    for number in range(1, len(lines)):
        rule = read_rule(names, lines[number])
        if rule is None or number > MOST_RULES:
            raise NoText(number)
        rules.append(rule)
    return (names, rules)


def show_rule(names, rule):
    """The line that tells the rule."""
    return " ".join(names_in(names, rule[1]) + [rule[0]] + names_in(names, rule[2]))


def shown(names, rules):
    """The text that tells the columns and the rules."""
    return "\n".join([" ".join(["columns"] + names)] + [show_rule(names, rule) for rule in rules])


def show_set(names, some):
    """The set as a text."""
    if some == 0:
        return "-"
    return ",".join(names_in(names, some))


def read_set(names, text):
    """The set that the text tells."""
    if not isinstance(text, str):
        raise NoSet("a set is told as a text")
    if text == "-":
        return 0
    some = set_named(names, text.split(","))
    if some is None:
        raise NoSet(f"{text!r} is no set of columns")
    return some
