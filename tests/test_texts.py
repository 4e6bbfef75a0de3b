"""Points 2, 29 and 30: tables and sets as texts."""

import itertools
import unittest

from samples import LETTERS, columns, plain_line, sample_names, sample_source, told_rule
from splithouse.errors import NoSet, NoText, SplitError
from splithouse.texts import read, read_set, show_set, shown

ABC = ["a", "b", "c"]

NOT_LETTERS = [chr(code) for code in range(32, 127) if chr(code) not in LETTERS]


def table(lines):
    return "\n".join(lines)


def plain_shown(names, rules):
    """Point 29, forwards."""
    return table(["columns " + " ".join(names)] + [plain_line(names, rule) for rule in rules])


class ReadTexts(unittest.TestCase):
    def test_columns_alone(self):
        self.assertEqual(read("columns a"), (["a"], []))
        self.assertEqual(read("columns b a"), (["b", "a"], []))
        self.assertEqual(read("columns a b c d e f g"), (list("abcdefg"), []))

    def test_names(self):
        self.assertEqual(read("columns abcdefgh z"), (["abcdefgh", "z"], []))
        self.assertEqual(read("columns columns"), (["columns"], []))
        self.assertEqual(read("columns settles deals se al"), (["settles", "deals", "se", "al"], []))
        for letter in LETTERS:
            self.assertEqual(read("columns " + letter), ([letter], []))
            self.assertEqual(read("columns m" + letter * 7), (["m" + letter * 7], []))

    def test_rules(self):
        self.assertEqual(read("columns a b c\na settle b"), (ABC, [("settle", 1, 2)]))
        self.assertEqual(read("columns a b c\na deal b"), (ABC, [("deal", 1, 2)]))
        self.assertEqual(read("columns a b c\na c settle b c\nb deal a\nc settle a b c"),
                         (ABC, [("settle", 5, 6), ("deal", 2, 1), ("settle", 4, 7)]))

    def test_columns_are_numbered_as_they_stand(self):
        self.assertEqual(read("columns c b a\nc b settle a"), (["c", "b", "a"], [("settle", 3, 4)]))

    def test_no_names_at_the_left(self):
        self.assertEqual(read("columns a b c\nsettle b"), (ABC, [("settle", 0, 2)]))
        self.assertEqual(read("columns a b c\ndeal a c"), (ABC, [("deal", 0, 5)]))

    def test_names_at_both_sides_and_rules_that_say_nothing(self):
        self.assertEqual(read("columns a b\na b settle a b"), (["a", "b"], [("settle", 3, 3)]))
        self.assertEqual(read("columns a\na deal a"), (["a"], [("deal", 1, 1)]))

    def test_a_column_called_columns(self):
        self.assertEqual(read("columns a columns\na settle columns\ncolumns deal a"),
                         (["a", "columns"], [("settle", 1, 2), ("deal", 2, 1)]))

    def test_rules_that_stand_more_than_once(self):
        self.assertEqual(read(table(["columns a b"] + ["a settle b"] * 2)), (["a", "b"], [("settle", 1, 2)] * 2))

    def test_twelve_rules(self):
        self.assertEqual(read(table(["columns a b"] + ["a settle b"] * 12)), (["a", "b"], [("settle", 1, 2)] * 12))

    def test_kinds(self):
        told = read("columns a b\na settle b")
        self.assertEqual([type(value) for value in told], [list, list])
        self.assertIs(type(told), tuple)
        self.assertEqual([type(value) for value in told[1][0]], [str, int, int])
        self.assertIs(type(told[1][0]), tuple)

    def test_the_told_lists_are_new(self):
        text = "columns a b\na settle b"
        names, rules = read(text)
        names.append("c")
        rules.clear()
        self.assertEqual(read(text), (["a", "b"], [("settle", 1, 2)]))


class ReadRefused(unittest.TestCase):
    def refused(self, text, line):
        with self.assertRaises(NoText) as caught:
            read(text)
        self.assertEqual((caught.exception.line, type(caught.exception.line)), (line, int), repr(text))
        self.assertIsInstance(caught.exception, SplitError)

    def test_what_is_no_text(self):
        for value in (None, 0, 7, True, [], ["columns a"], ("columns a",), {}, b"columns a", 1.5):
            self.refused(value, 0)

    def test_no_signs(self):
        self.refused("", 0)
        self.refused(" ", 0)
        self.refused("\n", 0)
        self.refused("\ncolumns a", 0)

    def test_the_word_of_the_first_line(self):
        for line in ("column a", "Columns a", "columnsa", "a", "a b", "acolumns b", "settle a", "a columns",
                     "COLUMNS a", "columns\ta", "columns,a"):
            self.refused(line, 0)
            self.refused(line + "\na settle a", 0)

    def test_no_names_and_more_than_seven(self):
        self.refused("columns", 0)
        self.refused("columns\n", 0)
        self.refused("columns a b c d e f g h", 0)
        self.refused("columns a b c d e f g h i", 0)

    def test_names_that_are_none(self):
        self.refused("columns abcdefghi", 0)
        self.refused("columns a settle", 0)
        self.refused("columns deal", 0)
        self.refused("columns settle b", 0)
        for sign in NOT_LETTERS:
            self.refused("columns b" + sign, 0)
            self.refused("columns " + sign + "b", 0)
            self.refused("columns " + sign, 0)
        # A blank, the first of these signs, parts two names there.
        for sign in NOT_LETTERS[1:]:
            self.refused("columns b" + sign + "c", 0)

    def test_letters_that_are_not_from_a_to_z(self):
        for sign in ("\u00e9", "\u00df", "\u03b1", "\u00aa", "\u0131", "\t", "\r", "\x0b", "\x0c", "\x1c", "\u2028"):
            self.refused("columns a" + sign, 0)
            self.refused("columns a\na settle a" + sign, 1)
            self.refused("columns a\na settle a" + sign + "a settle a", 1)

    def test_names_twice(self):
        self.refused("columns a a", 0)
        self.refused("columns a b c a", 0)
        self.refused("columns ab b ab", 0)

    def test_blanks_in_the_first_line(self):
        for line in (" columns a", "columns  a", "columns a ", "columns a  b", "columns ", "columns a b ", "  "):
            self.refused(line, 0)
            self.refused(line + "\na settle a", 0)

    def test_a_line_end_behind_the_last_line(self):
        self.refused("columns a\n", 1)
        self.refused("columns a\na settle a\n", 2)
        self.refused("columns a\na settle a\n\n", 2)
        self.refused(table(["columns a"] + ["a settle a"] * 12) + "\n", 13)

    def test_a_line_without_signs(self):
        self.refused("columns a b\n\na settle b", 1)
        self.refused("columns a b\na settle b\n\na settle b", 2)

    def test_a_rule_without_its_word(self):
        for line in ("a", "a b", "c", "columns a b c", "a settles b", "a Settle b", "a deals b", "a, settle, b",
                     "asettleb", "-", "a b c"):
            self.refused("columns a b c\n" + line, 1)

    def test_a_rule_with_two_words(self):
        for line in ("a settle settle b", "a settle b settle c", "a deal b settle c", "settle deal a", "a settle deal",
                     "settle settle", "settle a deal"):
            self.refused("columns a b c\n" + line, 1)

    def test_a_rule_with_nothing_at_its_right(self):
        for line in ("settle", "deal", "a settle", "a deal", "a b c settle", "a settle ", "settle "):
            self.refused("columns a b c\n" + line, 1)

    def test_blanks_in_a_rule(self):
        for line in (" a settle b", "a  settle b", "a settle  b", "a settle b ", "a  b settle c", " settle b", "  ",
                     " ", "a settle b  c"):
            self.refused("columns a b c\n" + line, 1)

    def test_unknown_names(self):
        for line in ("d settle a", "a settle d", "a d settle b", "A settle b", "ab settle c", "- settle a",
                     "a settle -", "a,b settle c", "a settle b,c", "0 settle 1"):
            self.refused("columns a b c\n" + line, 1)

    def test_names_out_of_order(self):
        for line in ("b a settle c", "c a settle b", "a settle c b", "a c b settle a", "settle b a", "deal c a"):
            self.refused("columns a b c\n" + line, 1)
        self.refused("columns b a\na b settle a", 1)
        self.assertEqual(read("columns b a\nb a settle a")[1], [("settle", 3, 2)])

    def test_names_twice_at_a_side(self):
        for line in ("a a settle b", "a b b settle c", "a settle b b", "a deal a a", "a b a settle c"):
            self.refused("columns a b c\n" + line, 1)

    def test_the_thirteenth_rule(self):
        self.refused(table(["columns a b"] + ["a settle b"] * 13), 13)
        self.refused(table(["columns a b"] + ["a settle b"] * 20), 13)
        self.refused(table(["columns a b"] + ["a settle b"] * 12 + ["a settle c"]), 13)
        self.refused(table(["columns a b"] + ["a settle b"] * 12 + ["columns a b"]), 13)

    def test_the_first_line_that_does_not_fit(self):
        lines = ["columns a b"] + ["a settle b"] * 12
        for at in range(13):
            for wrong in ("", "a settle c", "b"):
                self.refused(table(lines[:at] + [wrong] + lines[at + 1:]), at)
                self.refused(table(lines[:at] + [wrong] + lines[at + 1:] + ["a settle b", ""]), at)
        self.refused(table(["columns a a"] + ["x"] * 5), 0)
        self.refused(table(["columns a b", "a settle b", "x", "y", "a settle b"]), 2)

    def test_a_rule_in_the_first_line_and_names_in_the_second(self):
        self.refused("a settle b\ncolumns a b", 0)
        self.refused("columns a b\ncolumns a b", 1)

    def test_every_line_of_up_to_four_words(self):
        names = ["a", "b"]
        words = ["a", "b", "settle", "deal", ""]
        sides = {(): 0, ("a",): 1, ("b",): 2, ("a", "b"): 3}
        fitting = {left + (word,) + right: (word, sides[left], sides[right])
                   for left in sides for right in list(sides)[1:] for word in ("settle", "deal")}
        for count in range(1, 5):
            for line in itertools.product(words, repeat=count):
                text = "columns a b\n" + " ".join(line)
                if line in fitting:
                    self.assertEqual(read(text), (names, [fitting[line]]))
                else:
                    self.refused(text, 1)

    def test_refusals_beside_one_another_keep_their_lines(self):
        caught = []
        for text in ("columns", "columns a\nb", "columns a\na settle a\nb"):
            try:
                read(text)
            except NoText as error:
                caught.append(error)
        self.assertEqual([error.line for error in caught], [0, 1, 2])


class Shown(unittest.TestCase):
    def test_written_ones(self):
        self.assertEqual(shown(["a"], []), "columns a")
        self.assertEqual(shown(ABC, [("settle", 1, 6), ("deal", 0, 4)]), "columns a b c\na settle b c\ndeal c")
        self.assertEqual(shown(["z", "y"], [("deal", 3, 3)]), "columns z y\nz y deal z y")

    def test_a_text_read_and_shown_again_is_the_very_text(self):
        source = sample_source(121)
        for many in range(1, 8):
            for turn in range(40):
                names = sample_names(source, many)
                rules = [told_rule(source, many) for number in range(source.randrange(13))]
                text = plain_shown(names, rules)
                self.assertEqual(read(text), (names, rules))
                self.assertEqual(shown(names, rules), text)
                self.assertEqual(shown(*read(text)), text)

    def test_each_rule_of_three_columns(self):
        for rule in itertools.product(("settle", "deal"), range(8), range(1, 8)):
            self.assertEqual(read(shown(ABC, [rule])), (ABC, [rule]))
            self.assertEqual(shown(ABC, [rule]), "columns a b c\n" + plain_line(ABC, rule))

    def test_sixty_rules(self):
        source = sample_source(122)
        names = list("abcdefg")
        rules = [told_rule(source, 7) for number in range(60)]
        self.assertEqual(shown(names, rules), plain_shown(names, rules))

    def test_what_is_handed_in_stays(self):
        names, rules = ["a", "b"], [("settle", 1, 2)]
        self.assertEqual(shown(names, rules), "columns a b\na settle b")
        self.assertEqual((names, rules), (["a", "b"], [("settle", 1, 2)]))
        names.append("c")
        rules.append(("deal", 4, 1))
        self.assertEqual(shown(names, rules), "columns a b c\na settle b\nc deal a")


class Sets(unittest.TestCase):
    def refused(self, names, text):
        with self.assertRaises(NoSet) as caught:
            read_set(names, text)
        self.assertIsInstance(caught.exception, SplitError)

    def test_shown(self):
        self.assertEqual([show_set(ABC, some) for some in range(8)],
                         ["-", "a", "b", "a,b", "c", "a,c", "b,c", "a,b,c"])
        self.assertEqual(show_set(["z", "yy", "x"], 7), "z,yy,x")

    def test_read(self):
        self.assertEqual([read_set(ABC, text) for text in ("-", "a", "b", "a,b", "c", "a,c", "b,c", "a,b,c")],
                         list(range(8)))
        self.assertEqual(read_set(["z", "yy", "x"], "z,x"), 5)
        self.assertIs(type(read_set(ABC, "-")), int)
        self.assertIs(type(read_set(ABC, "a")), int)

    def test_read_and_shown_again(self):
        source = sample_source(123)
        for many in range(1, 8):
            names = sample_names(source, many)
            for some in range(2 ** many):
                self.assertEqual(show_set(names, some), ",".join(names[k] for k in sorted(columns(some))) or "-")
                self.assertEqual(read_set(names, show_set(names, some)), some)

    def test_no_signs(self):
        self.refused(ABC, "")
        self.refused(ABC, " ")

    def test_commas(self):
        for text in (",", ",a", "a,", "a,,b", ",a,b", "a,b,", ",,", "a,b,,c", "-,", ",-", "-,-"):
            self.refused(ABC, text)

    def test_names_twice(self):
        for text in ("a,a", "b,b", "a,b,b", "a,b,a", "a,a,b", "c,c"):
            self.refused(ABC, text)

    def test_names_out_of_order(self):
        for text in ("b,a", "c,a", "c,b", "a,c,b", "b,a,c", "c,b,a", "b,c,a"):
            self.refused(ABC, text)
        self.refused(["b", "a"], "a,b")
        self.assertEqual(read_set(["b", "a"], "b,a"), 3)

    def test_unknown_names(self):
        for text in ("d", "a,d", "d,a", "A", "ab", "a b", "a, b", " a", "a ", "a;b", "0", "1", "--", "-a", "a-",
                     "a,-", "-,a", "- ", "a\n", "-\n", "settle", "SET", "none"):
            self.refused(ABC, text)
        self.refused(["ab"], "a")
        self.refused(["ab"], "a,b")
        self.refused(["ab"], "abc")

    def test_what_is_no_text(self):
        for value in (None, 0, 1, True, ["a"], ("a",), b"a"):
            self.refused(ABC, value)

    def test_the_names_stay(self):
        names = ["a", "b"]
        self.assertEqual((read_set(names, "a,b"), show_set(names, 3)), (3, "a,b"))
        self.refused(names, "b,a")
        self.assertEqual(names, ["a", "b"])
        names.reverse()
        self.assertEqual((read_set(names, "b,a"), show_set(names, 3)), (3, "b,a"))


if __name__ == "__main__":
    unittest.main()
