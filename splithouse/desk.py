"""A desk: a table that answers rows."""

from splithouse.covers import cover
from splithouse.cuts import cut_in_two
from splithouse.errors import NoRow, NoSet, TooMany
from splithouse.follows import follows
from splithouse.forms import cut_tree, leaves
from splithouse.keeping import part_by_part, parts_by_cover
from splithouse.keys import keys
from splithouse.texts import MOST_RULES, read, read_set, show_rule, show_set, shown

FORMS = (
    ("show",),
    ("follows", "SET", "settle", "SET"),
    ("follows", "SET", "deal", "SET"),
    ("keys",),
    ("cover",),
    ("cut", "SET", "SET"),
    ("tree",),
    ("parts",),
    ("part", "SET", "settle", "SET"),
    ("let", "SET", "settle", "SET"),
    ("let", "SET", "deal", "SET"),
    ("drop", "NUMBER"),
)


def has_form(words, form):
    """Whether the words are those of the form, those in the places of sets and numbers aside."""
    if len(words) != len(form):
        return False
    return all([place in ("SET", "NUMBER") or place == word for place, word in zip(form, words)])


def form_of(words):
    """The form that the words have."""
    for form in FORMS:
        if has_form(words, form):
            return form
    raise NoRow("no such row")


def words_of(row):
    """The words of the row."""
    if not isinstance(row, str):
        raise NoRow("a row is a text")
    return row.split(" ")


def show_sets(names, sets):
    """The sets, parted by blanks."""
    return " ".join([show_set(names, some) for some in sets])


def show_cover(names, rules):
    """The lines of the cover's rules."""
    lines = [show_rule(names, rule) for rule in cover(len(names), rules)]
    if lines == []:
        return "none"
    return "; ".join(lines)


def show_paper(names, paper):
    """Whether a rule follows, with the numbers of the rules used or with the block."""
    if paper[0] == "no":
        return "no " + show_set(names, paper[1])
    return " ".join(["yes"] + [str(step[0]) for step in paper[1]])


def show_told(names, told, good):
    """The good word alone where it is told, else the other one with its set."""
    if told[0] == good:
        return good
    return told[0] + " " + show_set(names, told[1])


def answer(names, rules, words, sets):
    """The answer to a row that changes nothing."""
    many = len(names)
    if words[0] == "show":
        return shown(names, rules)
    if words[0] == "follows":
        return show_paper(names, follows(many, rules, (words[2], sets[0], sets[1])))
    if words[0] == "keys":
        return show_sets(names, keys(many, rules))
    if words[0] == "cover":
        return show_cover(names, rules)
    if words[0] == "cut":
        return show_told(names, cut_in_two(many, rules, sets[0], sets[1]), "safe")
    if words[0] == "parts":
        return show_sets(names, parts_by_cover(many, rules))
    whole_parts = leaves(cut_tree(many, rules))
    if words[0] == "tree":
        return show_sets(names, whole_parts)
    return show_told(names, part_by_part(many, rules, whole_parts, ("settle", sets[0], sets[1])), "yes")


class Desk:
    """A table that is told rows, and that two of them change."""

    def __init__(self, text):
        told = read(text)
        self.names = told[0]
        self.rules = told[1]

    def say(self, row):
        """The answer to the row."""
        words = words_of(row)
        form = form_of(words)
        sets = [read_set(self.names, word) for place, word in zip(form, words) if place == "SET"]
        if words[0] == "let":
            return self.let((words[2], sets[0], sets[1]))
        if words[0] == "drop":
            return self.drop(words[1])
        return answer(self.names, self.rules, words, sets)

    def let(self, rule):
        """Put the rule at the end."""
        if rule[2] == 0:
            raise NoSet("a rule has a column at its right")
        if len(self.rules) >= MOST_RULES:
            raise TooMany(f"more than {MOST_RULES} rules")
        self.rules = self.rules + [rule]
        return "ok"

    def drop(self, word):
        """Take the rule with the number out."""
        numbers = [str(number) for number in range(len(self.rules))]
        if word not in numbers:
            raise NoRow("no such rule")
        at = numbers.index(word)
        self.rules = self.rules[:at] + self.rules[at + 1:]
        return "ok"
