"""Points 2 and 19: a table cut in two parts."""

import itertools
import unittest

from samples import (all_books, all_cuts, columns, keeping_book, plain_book, plain_follows, plain_keeps, put_again,
                     sample_book, sample_cut, sample_order, sample_rule, sample_rules, sample_source, turned_rules)
from splithouse.books import keeps, put_together, seen_on
from splithouse.cuts import cut_in_two
from splithouse.errors import NoCut, SplitError
from splithouse.follows import follows
from splithouse.sets import turned
from splithouse.unfold import unfolded, walked

WORDS = ("settle", "deal")


def is_torn(block, one, other):
    return bool(columns(block) - columns(other) and columns(block) - columns(one))


class CutInTwo(unittest.TestCase):
    def test_safe_by_a_settling_rule(self):
        self.assertEqual(cut_in_two(3, [("settle", 1, 2)], 3, 5), ("safe", [(0, 6)]))
        self.assertEqual(cut_in_two(3, [("settle", 1, 4)], 3, 5), ("safe", [(0, 6)]))
        self.assertEqual(cut_in_two(3, [("settle", 1, 6)], 3, 5), ("safe", [(0, 6)]))

    def test_safe_by_a_dealing_rule(self):
        self.assertEqual(cut_in_two(3, [("deal", 1, 2)], 3, 5), ("safe", [(0, 6)]))
        self.assertEqual(cut_in_two(3, [("deal", 1, 4)], 3, 5), ("safe", [(0, 6)]))
        self.assertEqual(cut_in_two(2, [("deal", 0, 1)], 1, 2), ("safe", [(0, 3)]))

    def test_safe_by_several_steps(self):
        rules = [("settle", 2, 4), ("deal", 2, 8), ("settle", 1, 2)]
        self.assertEqual(cut_in_two(5, rules, 9, 23), ("safe", [(2, 30), (0, 28), (1, 24)]))
        self.assertEqual(cut_in_two(5, rules, 15, 17), ("safe", [(2, 30), (0, 28), (1, 24)]))
        self.assertEqual(cut_in_two(5, rules, 10, 23), ("safe", [(0, 29), (1, 25)]))
        self.assertEqual(cut_in_two(5, rules[:1] + rules[2:], 9, 23), ("unsafe", 24))

    def test_all_steps_of_unfolding_are_told_whether_needed_or_not(self):
        rules = [("settle", 1, 2), ("settle", 1, 8), ("deal", 1, 4)]
        self.assertEqual(cut_in_two(5, rules, 3, 29), ("safe", [(0, 30), (1, 28), (2, 20)]))

    def test_unsafe(self):
        self.assertEqual(cut_in_two(3, [], 3, 5), ("unsafe", 6))
        self.assertEqual(cut_in_two(3, [("settle", 2, 1), ("settle", 4, 1)], 3, 5), ("unsafe", 6))
        self.assertEqual(cut_in_two(4, [("settle", 1, 8)], 3, 13), ("unsafe", 6))
        self.assertEqual(cut_in_two(4, [("deal", 1, 8)], 3, 13), ("unsafe", 6))
        self.assertEqual(cut_in_two(2, [], 1, 2), ("unsafe", 3))

    def test_unsafe_with_the_first_such_block(self):
        rules = [("deal", 1, 6)]
        self.assertEqual(unfolded(5, rules, 1), (1, [6, 24], [(0, 30)]))
        self.assertEqual(cut_in_two(5, rules, 11, 21), ("unsafe", 6))
        self.assertEqual(cut_in_two(5, rules, 15, 17), ("unsafe", 24))
        self.assertEqual(cut_in_two(5, [("deal", 1, 24)], 11, 21), ("unsafe", 24))
        self.assertEqual(cut_in_two(7, [("deal", 1, 6), ("deal", 1, 24)], 43, 85), ("unsafe", 6))
        self.assertEqual(cut_in_two(7, [("deal", 1, 6), ("deal", 1, 24)], 47, 81), ("unsafe", 24))
        self.assertEqual(cut_in_two(7, [("deal", 1, 6), ("deal", 1, 24)], 63, 65), ("unsafe", 96))

    def test_a_block_within_one_part_is_passed_over(self):
        self.assertEqual(cut_in_two(5, [("deal", 1, 6)], 7, 25), ("safe", [(0, 30)]))
        self.assertEqual(cut_in_two(5, [("deal", 1, 6)], 25, 7), ("safe", [(0, 30)]))

    def test_the_parts_change_places(self):
        source = sample_source(51)
        for many in range(1, 8):
            for turn in range(20):
                rules = sample_rules(source, many, 6)
                one, other = sample_cut(source, many)
                self.assertEqual(cut_in_two(many, rules, one, other), cut_in_two(many, rules, other, one))

    def test_parts_that_are_all_columns_or_lie_within_one_another(self):
        source = sample_source(52)
        for many in range(1, 8):
            whole = 2 ** many - 1
            for some in {0, 1, whole, whole // 2, source.randrange(2 ** many)}:
                rules = sample_rules(source, many, 6)
                wanted = ("safe", unfolded(many, rules, some)[2])
                self.assertEqual(cut_in_two(many, rules, whole, some), wanted)
                self.assertEqual(cut_in_two(many, rules, some, whole), wanted)
                self.assertEqual(cut_in_two(many, [], whole, some), ("safe", []))

    def test_parts_that_are_alike(self):
        for many in range(1, 8):
            whole = 2 ** many - 1
            self.assertEqual(cut_in_two(many, [("settle", 0, 1), ("deal", 0, 1)], whole, whole), ("safe", []))

    def test_a_part_without_columns(self):
        self.assertEqual(cut_in_two(3, [], 0, 7), ("safe", []))
        self.assertEqual(cut_in_two(3, [], 7, 0), ("safe", []))
        self.assertEqual(cut_in_two(3, [("deal", 0, 1), ("settle", 1, 2)], 0, 7), ("safe", [(0, 7), (1, 6)]))
        self.assertEqual(cut_in_two(1, [("settle", 0, 1)], 0, 1), ("safe", [(0, 1)]))

    def test_parts_that_have_no_column_in_both(self):
        self.assertEqual(cut_in_two(4, [], 3, 12), ("unsafe", 15))
        self.assertEqual(cut_in_two(4, [("settle", 1, 4)], 3, 12), ("unsafe", 15))
        self.assertEqual(cut_in_two(4, [("deal", 0, 3)], 3, 12), ("safe", [(0, 15)]))
        self.assertEqual(cut_in_two(4, [("settle", 0, 3)], 3, 12), ("safe", [(0, 15)]))
        self.assertEqual(cut_in_two(4, [("deal", 0, 1)], 3, 12), ("unsafe", 14))

    def test_parts_that_leave_a_column_out(self):
        for many in range(1, 6):
            whole = 2 ** many - 1
            for one, other in itertools.product(range(whole + 1), repeat=2):
                if one | other != whole:
                    with self.assertRaises(NoCut):
                        cut_in_two(many, [("settle", 0, whole)], one, other)
        for one, other in ((0, 0), (126, 126), (63, 32), (0, 126), (127 - 8, 119), (1, 2)):
            with self.assertRaises(SplitError):
                cut_in_two(7, [], one, other)

    def test_a_column_left_out_is_refused_though_the_rules_settle_it(self):
        with self.assertRaises(NoCut):
            cut_in_two(3, [("settle", 1, 4)], 1, 3)

    def check(self, many, rules, one, other):
        """What is told against point 19."""
        told = cut_in_two(many, rules, one, other)
        self.assertIs(type(told), tuple)
        fixed, blocks, steps = unfolded(many, rules, one & other)
        torn = [block for block in blocks if is_torn(block, one, other)]
        self.assertEqual(told, ("unsafe", torn[0]) if torn else ("safe", steps))
        self.assertEqual(told[0] == "safe", plain_follows(many, rules, ("deal", one & other, one)))
        self.assertEqual(told[0] == "safe", plain_follows(many, rules, ("deal", one & other, other)))
        if told[0] == "safe":
            self.assertEqual(walked(many, rules, one & other, told[1]), (fixed, blocks))
        else:
            self.check_book(plain_book(many, told[1]), rules, one, other)

    def check_book(self, book, rules, one, other):
        """That the book keeps the rules, and that its parts, put together, have a row more."""
        self.assertTrue(plain_keeps(book, rules) and keeps(book, rules))
        again = put_again(book, [one, other])
        self.assertLess(set(book), set(again))
        self.assertEqual(put_together(seen_on(book, one), one, seen_on(book, other), other), again)

    def test_all_cuts_by_all_pairs_of_rules_of_two_columns(self):
        rules = list(itertools.product(WORDS, range(4), range(4)))
        for one, other in all_cuts(2):
            for pair in itertools.product(rules, repeat=2):
                self.check(2, list(pair), one, other)

    def test_all_cuts_by_each_rule_of_three_columns(self):
        for one, other in all_cuts(3):
            for rule in itertools.product(WORDS, range(8), range(8)):
                self.check(3, [rule], one, other)

    def test_many(self):
        source = sample_source(53)
        for many in range(1, 8):
            for turn in range(60):
                one, other = sample_cut(source, many)
                self.check(many, sample_rules(source, many, 12), one, other)

    def test_safe_just_where_the_dealing_rule_follows(self):
        source = sample_source(54)
        for many in range(1, 8):
            for turn in range(20):
                rules = sample_rules(source, many, 8)
                one, other = sample_cut(source, many)
                paper = follows(many, rules, ("deal", one & other, one))
                told = cut_in_two(many, rules, one, other)
                self.assertEqual((paper[0], paper[1]), ({"safe": "yes", "unsafe": "no"}[told[0]], told[1]))

    def test_a_safe_cut_loses_and_gains_nothing(self):
        source = sample_source(55)
        safe = 0
        for turn in range(300):
            rules = sample_rules(source, 4, 4)
            one, other = sample_cut(source, 4)
            if cut_in_two(4, rules, one, other)[0] == "safe":
                book = keeping_book(sample_book(source, 4, 4, (0, 1, 2)), rules)
                self.assertEqual(put_again(book, [one, other]), book)
                safe += one & other not in (one, other)
        self.assertGreater(safe, 20)

    def test_all_books_of_three_columns(self):
        source = sample_source(56)
        books = all_books(3)
        for turn in range(12):
            rules = [sample_rule(source, 3), sample_rule(source, 3)]
            keeping = [book for book in books if plain_keeps(book, rules)]
            for one, other in all_cuts(3):
                loses = any(put_again(book, [one, other]) != book for book in keeping)
                self.assertEqual(cut_in_two(3, rules, one, other)[0], "unsafe" if loses else "safe")

    def test_columns_put_in_another_order(self):
        source = sample_source(57)
        for many in range(1, 8):
            for turn in range(20):
                rules, order = sample_rules(source, many, 6), sample_order(source, many)
                one, other = sample_cut(source, many)
                told = cut_in_two(many, rules, one, other)
                # Which rule is used, at which block, doesn't hang on the numbers of the columns.
                if told[0] == "safe":
                    wanted = ("safe", [(k, turned(block, order)) for k, block in told[1]])
                else:
                    wanted = ("unsafe", turned(told[1], order))
                again = cut_in_two(many, turned_rules(rules, order), turned(one, order), turned(other, order))
                self.assertEqual(again, wanted)

    def test_what_is_handed_in_stays_and_the_told_list_is_new(self):
        rules = [("settle", 1, 2), ("deal", 2, 4)]
        kept = list(rules)
        told = cut_in_two(4, rules, 7, 9)
        wanted = ("safe", [(0, 14), (1, 12)])
        self.assertEqual((told, rules), (wanted, kept))
        told[1].clear()
        again = cut_in_two(4, rules, 7, 9)
        self.assertEqual(again, wanted)
        again[1].append((0, 14))
        self.assertEqual(cut_in_two(4, rules, 7, 9), wanted)
        cut_in_two(4, [], 15, 1)[1].append((0, 14))
        self.assertEqual(cut_in_two(4, [], 15, 1), ("safe", []))
        first = cut_in_two(4, rules, 7, 9)
        rules.clear()
        self.assertEqual((first, cut_in_two(4, rules, 7, 9)), (wanted, ("unsafe", 14)))
        self.assertEqual(cut_in_two(4, kept, 7, 9), wanted)
        with self.assertRaises(NoCut):
            cut_in_two(4, kept, 7, 1)
        self.assertEqual(kept, [("settle", 1, 2), ("deal", 2, 4)])


if __name__ == "__main__":
    unittest.main()
