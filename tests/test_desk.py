"""Points 2 and 30: the desk."""

import itertools
import unittest
from unittest import mock

from samples import columns, plain_line, sample_names, sample_source, told_rule
from splithouse.covers import cover
from splithouse.cuts import cut_in_two
from splithouse.desk import Desk
from splithouse.errors import NoCut, NoRow, NoSet, NoText, SplitError, TooMany
from splithouse.follows import follows
from splithouse.forms import cut_tree, leaves
from splithouse.keeping import part_by_part, parts_by_cover
from splithouse.keys import keys
from splithouse.texts import shown

ABC = "columns a b c"

CHAIN = "columns a b c\na settle b\nb settle c"

FOUR = "columns a b c d\na settle b\nb deal c"

NO_TEXTS = (None, 0, True, [], ["show"], ("show",), b"show", {})

# Rows that each desk of the columns a, b and c answers, two of which change it.
QUESTIONS = ("show", "keys", "cover", "tree", "parts", "follows a settle c", "follows a deal b", "cut a,b b,c",
             "part a settle c")


def plain_set(names, some):
    return ",".join(names[k] for k in sorted(columns(some))) or "-"


def table(lines):
    return "\n".join(lines)


def answers(desk):
    return [desk.say(row) for row in QUESTIONS]


class DeskTest(unittest.TestCase):
    def refused(self, desk, row, kind):
        """The row is refused so, and nothing is changed by it."""
        before = desk.say("show")
        with self.assertRaises(SplitError) as caught:
            desk.say(row)
        self.assertIs(type(caught.exception), kind, repr(row))
        self.assertEqual(desk.say("show"), before)


class Made(DeskTest):
    def test_of_a_text(self):
        self.assertEqual(Desk("columns a").say("show"), "columns a")
        self.assertEqual(Desk(CHAIN).say("show"), CHAIN)

    def test_of_another_text(self):
        for text, line in (("", 0), ("columns", 0), (ABC + "\n", 1), (CHAIN + "\nc settle d", 3), (CHAIN + "\n", 3),
                           (table([ABC] + ["a settle b"] * 13), 13)):
            with self.assertRaises(NoText) as caught:
                Desk(text)
            self.assertEqual(caught.exception.line, line)

    def test_of_what_is_no_text(self):
        for value in NO_TEXTS:
            with self.assertRaises(NoText) as caught:
                Desk(value)
            self.assertEqual(caught.exception.line, 0)


class Show(DeskTest):
    def test_the_text_of_the_table(self):
        for text in (ABC, CHAIN, FOUR, "columns z y\ndeal z y", table([ABC] + ["a settle b"] * 12)):
            self.assertEqual(Desk(text).say("show"), text)


class Follows(DeskTest):
    def test_yes_and_the_rules_used(self):
        desk = Desk(CHAIN)
        self.assertEqual(desk.say("follows a settle c"), "yes 0 1")
        self.assertEqual(desk.say("follows b settle c"), "yes 1")
        self.assertEqual(desk.say("follows a settle a,b,c"), "yes 0 1")
        self.assertEqual(Desk("columns a b c\nb settle c\na settle b").say("follows a settle c"), "yes 1 0")
        self.assertEqual(Desk(FOUR).say("follows a deal c"), "yes 0 1")

    def test_a_rule_used_twice(self):
        desk = Desk("columns a b c d\ndeal a b\na settle c\nsettle b d")
        self.assertEqual(desk.say("follows - settle b,d"), "yes 0 1 2 2")

    def test_a_number_of_two_figures(self):
        desk = Desk(table([ABC] + ["a settle a"] * 10 + ["a settle b", "b settle c"]))
        self.assertEqual(desk.say("follows a settle c"), "yes 10 11")

    def test_yes_alone(self):
        desk = Desk(ABC)
        self.assertEqual(desk.say("follows a settle a"), "yes")
        self.assertEqual(desk.say("follows a,b settle -"), "yes")
        self.assertEqual(desk.say("follows - deal -"), "yes")
        self.assertEqual(desk.say("follows - deal a,b,c"), "yes")

    def test_all_steps_whether_needed_or_not(self):
        self.assertEqual(Desk(CHAIN).say("follows a settle -"), "yes 0 1")
        self.assertEqual(Desk(CHAIN).say("follows a deal b"), "yes 0 1")

    def test_no_and_the_block(self):
        self.assertEqual(Desk(CHAIN).say("follows b settle a"), "no a")
        self.assertEqual(Desk(ABC).say("follows b settle a"), "no a,c")
        self.assertEqual(Desk(ABC).say("follows b deal a"), "no a,c")
        self.assertEqual(Desk(ABC).say("follows - deal a"), "no a,b,c")
        self.assertEqual(Desk(FOUR).say("follows b deal a"), "no a,d")

    def test_settle_and_deal_are_told_apart(self):
        desk = Desk("columns a b c\na deal b")
        self.assertEqual(desk.say("follows a deal b"), "yes 0")
        self.assertEqual(desk.say("follows a settle b"), "no b")


class Keys(DeskTest):
    def test_keys(self):
        self.assertEqual(Desk(CHAIN).say("keys"), "a")
        self.assertEqual(Desk(ABC).say("keys"), "a,b,c")
        self.assertEqual(Desk("columns a b c\nsettle a b c").say("keys"), "-")
        self.assertEqual(Desk("columns a b c\nc settle a b\na b settle c").say("keys"), "c a,b")
        self.assertEqual(Desk("columns a b\na settle b\nb settle a").say("keys"), "a b")


class Cover(DeskTest):
    def test_none(self):
        self.assertEqual(Desk(ABC).say("cover"), "none")
        self.assertEqual(Desk("columns a b\na settle a\nb deal b").say("cover"), "none")

    def test_rules(self):
        self.assertEqual(Desk(CHAIN).say("cover"), "a settle b; b settle c")
        self.assertEqual(Desk("columns a b c\na deal b\na settle b c").say("cover"), "a settle b; a settle c")
        self.assertEqual(Desk("columns a b c d\nc deal a\nsettle b").say("cover"), "settle b; c deal a")
        self.assertEqual(Desk("columns a b c\na settle b").say("cover"), "a settle b")
        self.assertEqual(Desk("columns a b c d\ndeal a b").say("cover"), "deal a b")
        self.assertEqual(Desk("columns a b c\na b settle c").say("cover"), "a b settle c")


class Cut(DeskTest):
    def test_safe(self):
        self.assertEqual(Desk(CHAIN).say("cut a,b b,c"), "safe")
        self.assertEqual(Desk("columns a b c\na deal b").say("cut a,b a,c"), "safe")
        self.assertEqual(Desk(ABC).say("cut a,b,c -"), "safe")
        self.assertEqual(Desk(ABC).say("cut - a,b,c"), "safe")

    def test_unsafe(self):
        self.assertEqual(Desk(CHAIN).say("cut a,c b,c"), "unsafe a,b")
        self.assertEqual(Desk(ABC).say("cut a b,c"), "unsafe a,b,c")
        self.assertEqual(Desk(FOUR).say("cut a,b,c a,d"), "safe")
        self.assertEqual(Desk(FOUR).say("cut a,b b,c,d"), "unsafe a,d")

    def test_parts_that_leave_a_column_out(self):
        desk = Desk(CHAIN)
        for row in ("cut a b", "cut - -", "cut a,b a", "cut - a,b", "cut b,c -"):
            self.refused(desk, row, NoCut)


class Tree(DeskTest):
    def test_one_leaf(self):
        self.assertEqual(Desk(ABC).say("tree"), "a,b,c")
        self.assertEqual(Desk("columns a").say("tree"), "a")

    def test_several(self):
        self.assertEqual(Desk("columns a b c\na settle b").say("tree"), "a,b a,c")
        self.assertEqual(Desk("columns a b c d\na settle b\nb settle c").say("tree"), "b,c a,b a,d")
        self.assertEqual(Desk("columns a b c\ndeal c\ndeal a").say("tree"), "c a b")


class Parts(DeskTest):
    def test_parts(self):
        self.assertEqual(Desk(ABC).say("parts"), "a,b,c")
        self.assertEqual(Desk(CHAIN).say("parts"), "a,b b,c")
        self.assertEqual(Desk("columns a b c\na settle b\na deal c").say("parts"), "a,b a,c")
        self.assertEqual(Desk("columns a b c\na settle b\nc settle a\nb settle a").say("parts"), "a,c a,b")

    def test_more_than_ten(self):
        pairs = list(itertools.combinations("abcdef", 2))
        lines = [f"{one} {other} settle g" for one, other in pairs]
        desk = Desk(table(["columns a b c d e f g"] + lines[:9]))
        wanted = [f"{one},{other},g" for one, other in pairs[:9]] + ["a,b,c,d,e,f"]
        self.assertEqual(desk.say("parts"), " ".join(wanted))
        self.assertEqual(desk.say("let c,d settle g"), "ok")
        self.refused(desk, "parts", TooMany)
        self.assertEqual(desk.say("keys"), "a,b,c,d,e,f")
        self.assertEqual(desk.say("drop 0"), "ok")
        self.assertEqual(desk.say("parts").split(" ")[-2:], ["c,d,g", "a,b,c,d,e,f"])


class Part(DeskTest):
    def test_yes(self):
        desk = Desk("columns a b c d\na settle b\nb settle c")
        self.assertEqual(desk.say("tree"), "b,c a,b a,d")
        self.assertEqual(desk.say("part a settle b"), "yes")
        self.assertEqual(desk.say("part a settle c"), "yes")
        self.assertEqual(desk.say("part a settle a"), "yes")
        self.assertEqual(desk.say("part d settle -"), "yes")

    def test_no_and_the_set_come_to(self):
        desk = Desk("columns a b c d\na settle b\nb settle c")
        self.assertEqual(desk.say("part a settle d"), "no a,b,c")
        self.assertEqual(desk.say("part b settle a"), "no b,c")
        self.assertEqual(desk.say("part - settle c"), "no -")
        self.assertEqual(desk.say("part d settle c"), "no d")

    def test_a_rule_that_follows_but_not_part_by_part(self):
        desk = Desk("columns a b c d\na b settle c\nc settle a")
        self.assertEqual(desk.say("tree"), "a,c b,c,d")
        self.assertEqual(desk.say("follows a,b settle c"), "yes 0")
        self.assertEqual(desk.say("part a,b settle c"), "no a,b")
        self.assertEqual(desk.say("part c settle a"), "yes")

    def test_dealing_rules_count(self):
        desk = Desk("columns a b c d\nc settle d\na deal c")
        self.assertEqual(desk.say("part a settle d"), "yes")
        self.assertEqual(desk.say("drop 1"), "ok")
        self.assertEqual(desk.say("part a settle d"), "no a")

    def test_a_tree_with_more_than_ten_leaves(self):
        # No table of seven columns has such a tree, so the desk is handed one.
        tree = ("whole", 1)
        for turn in range(10):
            tree = ("cut", 7, 0, 1, ("whole", 1), tree)
        desk = Desk(CHAIN)
        with mock.patch("splithouse.desk.cut_tree", lambda many, rules: tree):
            self.refused(desk, "part a settle b", TooMany)
        self.assertEqual(desk.say("part a settle b"), "yes")

    def test_a_tree_with_more_than_sixty_parts(self):
        def refuse(many, rules):
            raise TooMany("more than sixty parts")
        desk = Desk(CHAIN)
        with mock.patch("splithouse.desk.cut_tree", refuse):
            self.refused(desk, "tree", TooMany)
            self.refused(desk, "part a settle b", TooMany)
            self.assertEqual(desk.say("parts"), "a,b b,c")


class Let(DeskTest):
    def test_a_rule_at_the_end(self):
        desk = Desk(ABC)
        self.assertEqual(desk.say("let a settle b,c"), "ok")
        self.assertEqual(desk.say("show"), ABC + "\na settle b c")
        self.assertEqual(desk.say("let - deal c"), "ok")
        self.assertEqual(desk.say("show"), ABC + "\na settle b c\ndeal c")
        self.assertEqual(desk.say("let a,b settle b"), "ok")
        self.assertEqual(desk.say("show"), ABC + "\na settle b c\ndeal c\na b settle b")

    def test_a_rule_that_is_there_already(self):
        desk = Desk(CHAIN)
        self.assertEqual(desk.say("let a settle b"), "ok")
        self.assertEqual(desk.say("show"), CHAIN + "\na settle b")

    def test_it_counts_from_then_on(self):
        desk = Desk(ABC)
        self.assertEqual(desk.say("follows a settle c"), "no b,c")
        desk.say("let b settle c")
        self.assertEqual(desk.say("follows a settle c"), "no b,c")
        desk.say("let a settle b")
        self.assertEqual(desk.say("follows a settle c"), "yes 1 0")

    def test_a_right_without_columns(self):
        desk = Desk(CHAIN)
        for row in ("let a settle -", "let a deal -", "let - settle -", "let - deal -"):
            self.refused(desk, row, NoSet)

    def test_a_thirteenth_rule(self):
        desk = Desk(table([ABC] + ["a settle b"] * 11))
        self.assertEqual(desk.say("let a settle c"), "ok")
        self.refused(desk, "let a settle c", TooMany)
        self.refused(desk, "let - deal a", TooMany)
        self.assertEqual(desk.say("show"), table([ABC] + ["a settle b"] * 11 + ["a settle c"]))
        self.assertEqual(desk.say("drop 0"), "ok")
        self.assertEqual(desk.say("let b settle c"), "ok")
        self.assertEqual(desk.say("show"), table([ABC] + ["a settle b"] * 10 + ["a settle c", "b settle c"]))
        self.refused(desk, "let a settle c", TooMany)

    def test_no_set_comes_ahead_of_a_thirteenth_rule(self):
        desk = Desk(table([ABC] + ["a settle b"] * 12))
        for row in ("let a settle -", "let a deal -", "let d settle a", "let a settle d", "let b,a deal c",
                    "let  settle a"):
            self.refused(desk, row, NoSet)
        for row in ("let", "let a settle", "let a holds b", "let a settle b c", "let settle a"):
            self.refused(desk, row, NoRow)


class Drop(DeskTest):
    def test_a_rule_goes(self):
        desk = Desk(table([ABC, "a settle b", "b settle c", "c deal a"]))
        self.assertEqual(desk.say("drop 1"), "ok")
        self.assertEqual(desk.say("show"), table([ABC, "a settle b", "c deal a"]))
        self.assertEqual(desk.say("drop 1"), "ok")
        self.assertEqual(desk.say("show"), table([ABC, "a settle b"]))
        self.assertEqual(desk.say("drop 0"), "ok")
        self.assertEqual(desk.say("show"), ABC)
        self.refused(desk, "drop 0", NoRow)

    def test_the_numbers_of_the_rules_behind_it(self):
        desk = Desk(table([ABC, "c settle a", "a settle b", "b settle c"]))
        self.assertEqual(desk.say("follows a settle c"), "yes 1 2")
        desk.say("drop 0")
        self.assertEqual(desk.say("follows a settle c"), "yes 0 1")
        desk.say("let c settle a")
        self.assertEqual(desk.say("follows b settle a"), "yes 1 2")
        self.assertEqual(desk.say("drop 2"), "ok")
        self.assertEqual(desk.say("follows b settle a"), "no a")

    def test_rules_that_are_alike(self):
        desk = Desk(table([ABC, "a settle b", "b settle c", "a settle b"]))
        self.assertEqual(desk.say("drop 2"), "ok")
        self.assertEqual(desk.say("show"), table([ABC, "a settle b", "b settle c"]))

    def test_two_figures(self):
        lines = [ABC] + ["a settle b"] * 10 + ["b settle c", "c settle a"]
        desk = Desk(table(lines))
        self.refused(desk, "drop 12", NoRow)
        self.assertEqual(desk.say("drop 10"), "ok")
        self.assertEqual(desk.say("show"), table(lines[:11] + lines[12:]))
        self.refused(desk, "drop 11", NoRow)
        self.assertEqual(desk.say("drop 10"), "ok")
        self.assertEqual(desk.say("show"), table(lines[:11]))

    def test_no_such_rule(self):
        desk = Desk(CHAIN)
        for number in range(2, 100):
            self.refused(desk, f"drop {number}", NoRow)

    def test_what_is_no_number(self):
        desk = Desk(table([ABC] + ["a settle b"] * 12))
        for word in ("", "00", "01", "001", "000", "-1", "-0", "+1", "1.0", "0x1", "1a", "a", "one", "100", "1_0", "-",
                     "NUMBER", "1,0", "0\n", "\n0", "\u0661", "\u00b2", "0b1", "1e0", "None", "0000000000000000000001"):
            self.refused(desk, "drop " + word, NoRow)

    def test_other_words(self):
        desk = Desk(CHAIN)
        for row in ("drop", "drop 0 1", "drop  0", "drop 0 ", " drop 0", "Drop 0", "drop0"):
            self.refused(desk, row, NoRow)


class Refused(DeskTest):
    def test_what_is_no_text(self):
        desk = Desk(CHAIN)
        for value in NO_TEXTS:
            self.refused(desk, value, NoRow)

    def test_rows_that_are_none(self):
        desk = Desk(CHAIN)
        for row in ("", " ", "  ", "\n", "a", "SHOW", "Show", "sho", "shows", "show show", "show a", "key", "keys a",
                    "covers", "cover -", "follow a settle b", "follows", "follows a", "follows a settle",
                    "follows a b settle c", "follows a settle b c", "follows a settles b", "follows settle b",
                    "follows a Settle b", "follows a cut b", "follows settle a b", "cut", "cut a", "cut a b c",
                    "cut a,b,c", "tree a", "trees", "parts a", "part", "part a", "part a settle", "part a deal b",
                    "part a settle b c", "part settle a b", "parts a settle b", "let", "let a", "let a settle",
                    "let a b settle c", "let a,b", "let a keys b", "none", "ok", "a settle b", "columns a", "drop",
                    "SET", "follows SET", "follows a SET b"):
            self.refused(desk, row, NoRow)

    def test_blanks_make_words_without_signs(self):
        desk = Desk(CHAIN)
        for row in (" show", "show ", "show  ", " keys", "cover ", "tree ", " tree", "parts ", " follows a settle b",
                    "follows  a settle b", "follows a  settle b", "follows a settle  b", "follows a settle b ",
                    " cut a b", "cut a  b", "cut  a b", "cut a b ", "part a settle b ", "let a settle b ",
                    " let a settle b", "let  a settle b"):
            self.refused(desk, row, NoRow)

    def test_line_ends_are_no_blanks(self):
        desk = Desk(CHAIN)
        for row in ("show\n", "\nshow", "keys\n", "follows\na settle b", "follows a\nsettle b", "cut\na b"):
            self.refused(desk, row, NoRow)
        for row in ("cut a,b b,c\n", "follows a settle b\n", "let a settle b\n", "part \na settle b"):
            self.refused(desk, row, NoSet)

    def test_a_word_without_signs_in_the_place_of_a_set(self):
        desk = Desk(CHAIN)
        for row in ("cut  a", "cut a ", "cut  ", "follows  settle b", "follows a settle ", "follows  deal ",
                    "part  settle b", "part a settle ", "let  settle b", "let a deal ", "let a settle "):
            self.refused(desk, row, NoSet)

    def test_what_is_no_set(self):
        desk = Desk(CHAIN)
        for word in ("d", "b,a", "a,a", "a,", ",a", "a,,b", ",", "--", "-,a", "a,-", "A", "ab", "settle", "SET", "0",
                     "a;b"):
            for row in ("cut {} a,b,c", "cut a,b,c {}", "follows {} settle a", "follows a settle {}",
                        "follows {} deal a", "follows a deal {}", "part {} settle a", "part a settle {}",
                        "let {} settle a", "let a settle {}", "let {} deal a", "let a deal {}"):
                self.refused(desk, row.replace("{}", word), NoSet)

    def test_no_row_comes_ahead_of_no_set(self):
        desk = Desk(CHAIN)
        for row in ("follows d holds e", "cut d e f", "part d deal e", "let d holds e", "follows d settle e f",
                    "show d"):
            self.refused(desk, row, NoRow)

    def test_no_set_comes_ahead_of_no_cut(self):
        desk = Desk(CHAIN)
        for row in ("cut d a", "cut a d", "cut - b,a", "cut d d"):
            self.refused(desk, row, NoSet)
        self.refused(desk, "cut a -", NoCut)

    def test_every_row_of_up_to_four_words(self):
        words = ["a", "-", "", "x", "settle", "deal", "follows", "cut", "let", "part", "show", "drop", "0"]
        sets = ("a", "-")
        for count in (1, 2, 3):
            for row in itertools.product(words, repeat=count):
                desk = Desk("columns a b\na settle b")
                if row == ("show",) or row == ("drop", "0"):
                    self.assertEqual(desk.say(" ".join(row)), "ok" if count == 2 else "columns a b\na settle b")
                elif count == 3 and row[0] == "cut":
                    self.refused(desk, " ".join(row), NoCut if row[1] in sets and row[2] in sets else NoSet)
                else:
                    self.refused(desk, " ".join(row), NoRow)
        for row in itertools.product(words, repeat=4):
            desk = Desk("columns a b\na settle b")
            kinds = {"follows": ("settle", "deal"), "let": ("settle", "deal"), "part": ("settle",)}
            if row[2] not in kinds.get(row[0], ()):
                self.refused(desk, " ".join(row), NoRow)
            elif row[1] not in sets or row[3] not in sets or row[0] == "let" and row[3] == "-":
                self.refused(desk, " ".join(row), NoSet)
            else:
                self.assertIn(desk.say(" ".join(row)).split(" ")[0], ("ok",) if row[0] == "let" else ("yes", "no"))


class Desks(DeskTest):
    def test_each_row_again_behind_let_and_drop(self):
        desk = Desk(CHAIN)
        first = answers(desk)
        self.assertEqual(first, [CHAIN, "a", "a settle b; b settle c", "b,c a,b", "a,b b,c", "yes 0 1", "yes 0 1",
                                 "safe", "yes"])
        self.assertEqual(desk.say("drop 1"), "ok")
        self.assertEqual(answers(desk), ["columns a b c\na settle b", "a,c", "a settle b", "a,b a,c", "a,b a,c", "no c",
                                         "yes 0", "unsafe a,c", "no a,b"])
        self.assertEqual(desk.say("let b settle c"), "ok")
        self.assertEqual(answers(desk), first)
        self.assertEqual(desk.say("let c settle a"), "ok")
        self.assertEqual(answers(desk), [CHAIN + "\nc settle a", "a b c", "a settle b; b settle c; c settle a",
                                         "a,b,c", "a,b b,c a,c", "yes 0 1", "yes 0 1", "safe", "yes"])

    def test_what_changes_nothing_may_be_asked_again(self):
        desk = Desk(CHAIN)
        first = answers(desk)
        for turn in range(3):
            self.assertEqual(answers(desk), first)

    def test_what_is_refused_changes_no_answer(self):
        desk = Desk(CHAIN)
        first = answers(desk)
        for row in ("let a settle -", "let d settle a", "drop 2", "drop 00", "cut a b", "let a", "", None):
            with self.assertRaises(SplitError):
                desk.say(row)
            self.assertEqual(answers(desk), first)

    def test_two_desks_side_by_side(self):
        one, other, third = Desk(CHAIN), Desk(CHAIN), Desk(ABC)
        first = answers(one)
        self.assertEqual(other.say("drop 0"), "ok")
        self.assertEqual(third.say("let c settle a"), "ok")
        self.assertEqual(answers(one), first)
        self.assertEqual(other.say("show"), "columns a b c\nb settle c")
        self.assertEqual(third.say("show"), "columns a b c\nc settle a")
        self.assertEqual(one.say("let c settle a"), "ok")
        self.assertEqual(other.say("show"), "columns a b c\nb settle c")
        self.assertEqual(answers(Desk(CHAIN)), first)

    def test_a_column_called_like_a_row(self):
        desk = Desk("columns show cut let columns\nshow settle cut")
        self.assertEqual(desk.say("follows show settle cut"), "yes 0")
        self.assertEqual(desk.say("let cut,let settle columns"), "ok")
        self.assertEqual(desk.say("show"), "columns show cut let columns\nshow settle cut\ncut let settle columns")
        words = ["show", "keys", "cover", "parts", "tree", "drop", "follows"]
        desk = Desk("columns " + " ".join(words))
        for word in words:
            self.assertEqual(desk.say(f"follows {word} settle {word}"), "yes")
            self.assertEqual(desk.say(f"part {word} settle {word}"), "yes")
            self.assertEqual(desk.say("cut " + ",".join(words) + " " + word), "safe")
            self.assertEqual(desk.say(f"let {word} deal {word}"), "ok")

    def test_every_row_as_the_stages_answer(self):
        source = sample_source(131)
        for many in range(1, 8):
            for turn in range(12):
                names = sample_names(source, many)
                rules = [told_rule(source, many) for number in range(source.randrange(13))]
                self.ask_all(Desk(shown(names, rules)), names, rules, source)

    def ask_all(self, desk, names, rules, source):
        many = len(names)

        def texts(sets):
            return " ".join(plain_set(names, some) for some in sets)
        self.assertEqual(desk.say("keys"), texts(keys(many, rules)))
        self.assertEqual(desk.say("cover"), "; ".join(plain_line(names, rule) for rule in cover(many, rules)) or "none")
        self.assertEqual(desk.say("tree"), texts(leaves(cut_tree(many, rules))))
        if len(rules) <= 9:
            self.assertEqual(desk.say("parts"), texts(parts_by_cover(many, rules)))
        for turn in range(5):
            word, left, right = told_rule(source, many)
            one, other = plain_set(names, left), plain_set(names, right)
            verdict, told = follows(many, rules, (word, left, right))
            wanted = "".join(f" {k}" for k, block in told) if verdict == "yes" else " " + texts([told])
            self.assertEqual(desk.say(f"follows {one} {word} {other}"), verdict + wanted)
            verdict, told = part_by_part(many, rules, leaves(cut_tree(many, rules)), ("settle", left, right))
            wanted = "yes" if verdict == "yes" else "no " + texts([told])
            self.assertEqual(desk.say(f"part {one} settle {other}"), wanted)
            beside = 2 ** many - 1 - left | right
            verdict, told = cut_in_two(many, rules, left, beside)
            wanted = "safe" if verdict == "safe" else "unsafe " + texts([told])
            self.assertEqual(desk.say(f"cut {one} {texts([beside])}"), wanted)

    def test_rules_let_and_dropped_at_will(self):
        source = sample_source(132)
        for many in range(1, 8):
            names = sample_names(source, many)
            desk, rules = Desk(shown(names, [])), []
            for turn in range(40):
                if source.randrange(3):
                    word, left, right = told_rule(source, many)
                    row = f"let {plain_set(names, left)} {word} {plain_set(names, right)}"
                    if len(rules) == 12:
                        self.refused(desk, row, TooMany)
                    else:
                        self.assertEqual(desk.say(row), "ok")
                        rules.append((word, left, right))
                else:
                    at = source.randrange(13)
                    if at < len(rules):
                        self.assertEqual(desk.say(f"drop {at}"), "ok")
                        rules.pop(at)
                    else:
                        self.refused(desk, f"drop {at}", NoRow)
                self.assertEqual(desk.say("show"), shown(names, rules))


if __name__ == "__main__":
    unittest.main()
