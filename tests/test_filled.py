"""Points 2, 20 and 21: a table cut in several parts, by the settling rules alone."""

import itertools
import unittest

from samples import (all_books, all_cuts, columns, keeping_book, plain_alike, plain_keeps, put_again, sample_book,
                     sample_cut, sample_order, sample_rules, sample_source, settling, turned_rules)
from splithouse.books import keeps, put_together, seen_on
from splithouse.cuts import cut_in_two
from splithouse.errors import NoCut, SplitError, TooMany
from splithouse.filled import filled, is_safe
from splithouse.sets import turned

# Five columns, five parts and five rules; its steps are gone through by hand.
FIVE = (5, [("settle", 1, 4), ("settle", 2, 4), ("settle", 4, 8), ("settle", 24, 4), ("settle", 20, 1)],
        [9, 3, 18, 28, 17])


def begun(many, parts):
    return [tuple(0 if k in columns(part) else at + 1 for k in range(many)) for at, part in enumerate(parts)]


def plain_steps(rules, rows):
    """All filling steps that can be done."""
    pairs = [(i, j) for i in range(len(rows)) for j in range(len(rows)) if i < j]
    return [(k, i, j, c) for k, (word, left, right) in enumerate(rules) if word == "settle" for i, j in pairs
            if plain_alike(rows[i], rows[j], left) for c in columns(right) if rows[i][c] != rows[j][c]]


def plain_done(rows, step):
    """The table behind the step."""
    k, i, j, c = step
    low, high = sorted((rows[i][c], rows[j][c]))
    return [tuple(low if at == c and number == high else number for at, number in enumerate(row)) for row in rows]


def plain_filled(many, rules, parts):
    """Point 20: of all steps that can be done, the first is done, until there is none."""
    rows, steps = begun(many, parts), []
    while plain_steps(rules, rows):
        # The first rule, then the first rows, then the least column: so the least tuple.
        steps.append(min(plain_steps(rules, rows)))
        rows = plain_done(rows, steps[-1])
    return rows, steps


def put_again_by_the_program(book, parts):
    together, seen = seen_on(book, parts[0]), parts[0]
    for part in parts[1:]:
        together = put_together(together, seen, seen_on(book, part), part)
        seen |= part
    return together


def sample_parts(source, many, most):
    """One up to so many parts that have all columns together."""
    parts = [source.randrange(2 ** many) for turn in range(source.randrange(1, most + 1))]
    for column in range(many):
        if not any(column in columns(part) for part in parts):
            parts[source.randrange(len(parts))] += 2 ** column
    return parts


class Filled(unittest.TestCase):
    def test_the_table_as_it_is_begun(self):
        self.assertEqual(filled(3, [], [3, 5]), ([(0, 0, 1), (0, 2, 0)], []))
        self.assertEqual(filled(3, [], [4, 2, 1]), ([(1, 1, 0), (2, 0, 2), (0, 3, 3)], []))
        self.assertEqual(filled(1, [], [1]), ([(0,)], []))
        self.assertEqual(filled(2, [], [3]), ([(0, 0)], []))
        source = sample_source(61)
        for many in range(1, 8):
            for turn in range(10):
                parts = sample_parts(source, many, 10)
                self.assertEqual(filled(many, [], parts), (begun(many, parts), []))

    def test_rules_that_can_not_be_used(self):
        rules = [("settle", 2, 4), ("settle", 1, 1), ("settle", 1, 0), ("settle", 7, 7)]
        self.assertEqual(filled(3, rules, [3, 5]), ([(0, 0, 1), (0, 2, 0)], []))

    def test_one_step(self):
        self.assertEqual(filled(3, [("settle", 1, 4)], [3, 5]), ([(0, 0, 0), (0, 2, 0)], [(0, 0, 1, 2)]))
        self.assertEqual(filled(3, [("settle", 1, 2)], [3, 5]), ([(0, 0, 1), (0, 0, 0)], [(0, 0, 1, 1)]))

    def test_a_left_without_columns(self):
        rows = [(0, 1, 1, 0), (2, 0, 2, 0), (3, 3, 0, 0), (4, 4, 4, 0)]
        steps = [(0, 0, 1, 3), (0, 0, 2, 3), (0, 0, 3, 3)]
        self.assertEqual(filled(4, [("settle", 0, 8)], [1, 2, 4, 8]), (rows, steps))

    def test_steps_gone_through_by_hand(self):
        rows = [(0, 1, 0, 0, 1), (0, 0, 0, 0, 2), (0, 0, 0, 0, 0), (0, 4, 0, 0, 0), (0, 5, 0, 0, 0)]
        steps = [(0, 0, 1, 2), (0, 0, 4, 2), (1, 1, 2, 2), (2, 0, 1, 3), (2, 0, 2, 3), (2, 0, 4, 3), (3, 2, 3, 2),
                 (4, 2, 3, 0), (4, 2, 4, 0)]
        self.assertEqual(filled(*FIVE), (rows, steps))

    def test_dealing_rules_are_passed_over_but_counted(self):
        rules = [("deal", 0, 2), ("settle", 1, 4), ("deal", 1, 2)]
        self.assertEqual(filled(3, rules, [3, 5]), ([(0, 0, 0), (0, 2, 0)], [(1, 0, 1, 2)]))
        self.assertEqual(filled(3, rules[::2], [3, 5]), ([(0, 0, 1), (0, 2, 0)], []))
        source = sample_source(62)
        for many in range(1, 8):
            for turn in range(15):
                rules, parts = sample_rules(source, many, 12), sample_parts(source, many, 10)
                numbers = [k for k, rule in enumerate(rules) if rule[0] == "settle"]
                rows, steps = filled(many, settling(rules), parts)
                wanted = (rows, [(numbers[k], i, j, c) for k, i, j, c in steps])
                self.assertEqual(filled(many, rules, parts), wanted)

    def test_the_first_rule_is_taken_and_they_are_looked_through_anew(self):
        rules = [("settle", 2, 4), ("settle", 1, 2)]
        self.assertEqual(filled(3, rules, [1, 7]), ([(0, 0, 0), (0, 0, 0)], [(1, 0, 1, 1), (0, 0, 1, 2)]))
        self.assertEqual(filled(3, rules[::-1], [1, 7]), ([(0, 0, 0), (0, 0, 0)], [(0, 0, 1, 1), (1, 0, 1, 2)]))
        rules = [("settle", 2, 4), ("settle", 1, 10)]
        self.assertEqual(filled(4, rules, [1, 15])[1], [(1, 0, 1, 1), (0, 0, 1, 2), (1, 0, 1, 3)])
        rules = [("settle", 1, 4), ("settle", 1, 4), ("settle", 1, 2)]
        self.assertEqual(filled(3, rules, [1, 7])[1], [(0, 0, 1, 2), (2, 0, 1, 1)])

    def test_rows_are_taken_by_the_first_then_by_the_second(self):
        self.assertEqual(filled(2, [("settle", 1, 2)], [1, 1, 1, 3])[1], [(0, 0, 1, 1), (0, 0, 2, 1), (0, 0, 3, 1)])
        rows = [(0, 0, 0), (2, 0, 0), (0, 3, 0), (0, 0, 0)]
        steps = [(0, 0, 2, 2), (0, 0, 3, 2), (1, 0, 1, 2)]
        self.assertEqual(filled(3, [("settle", 1, 4), ("settle", 2, 4)], [3, 2, 1, 7]), (rows, steps))
        self.assertEqual(filled(3, [("settle", 3, 4)], [1, 3, 4, 3, 3])[1], [(0, 1, 3, 2), (0, 1, 4, 2)])
        rows = [(1, 0, 0), (0, 2, 2), (0, 2, 2), (4, 0, 0)]
        steps = [(0, 1, 2, 1), (1, 0, 3, 2), (1, 1, 2, 2)]
        self.assertEqual(filled(3, [("settle", 1, 2), ("settle", 2, 4)], [2, 1, 1, 6]), (rows, steps))

    def test_the_least_column_is_taken(self):
        rows = [(0, 0, 0, 0), (0, 0, 0, 0)]
        self.assertEqual(filled(4, [("settle", 1, 14)], [1, 15]), (rows, [(0, 0, 1, 1), (0, 0, 1, 2), (0, 0, 1, 3)]))
        self.assertEqual(filled(4, [("settle", 8, 7)], [15, 8]), (rows, [(0, 0, 1, 0), (0, 0, 1, 1), (0, 0, 1, 2)]))
        self.assertEqual(filled(4, [("settle", 9, 15)], [13, 11]), (rows, [(0, 0, 1, 1), (0, 0, 1, 2)]))

    def test_the_columns_of_two_rows_come_ahead_of_other_rows(self):
        steps = [(0, 0, 1, 1), (0, 0, 1, 2), (0, 0, 2, 1), (0, 0, 2, 2)]
        self.assertEqual(filled(3, [("settle", 1, 6)], [1, 1, 7]), ([(0, 0, 0)] * 3, steps))

    def test_the_lesser_number_is_put_for_the_greater_whichever_row_has_it(self):
        self.assertEqual(filled(2, [("settle", 1, 2)], [3, 1]), ([(0, 0), (0, 0)], [(0, 0, 1, 1)]))
        self.assertEqual(filled(2, [("settle", 1, 2)], [1, 3]), ([(0, 0), (0, 0)], [(0, 0, 1, 1)]))
        self.assertEqual(filled(2, [("settle", 1, 2)], [1, 1, 2]), ([(0, 1), (0, 1), (3, 0)], [(0, 0, 1, 1)]))
        self.assertEqual(filled(3, [("settle", 1, 4)], [2, 1, 5]), ([(1, 0, 1), (0, 2, 0), (0, 3, 0)], [(0, 1, 2, 2)]))

    def test_the_lesser_number_is_put_in_all_rows_that_have_the_greater_there(self):
        rows = [(0, 0, 0), (0, 2, 0), (3, 0, 0), (0, 4, 0)]
        steps = [(0, 0, 1, 2), (0, 0, 3, 2), (1, 0, 2, 2)]
        self.assertEqual(filled(3, [("settle", 1, 4), ("settle", 2, 4)], [3, 1, 2, 5]), (rows, steps))
        rows = [(0, 0, 0), (0, 2, 0), (0, 3, 0), (4, 0, 0)]
        steps = [(0, 0, 1, 2), (0, 0, 2, 2), (1, 0, 3, 2)]
        self.assertEqual(filled(3, [("settle", 1, 4), ("settle", 2, 4)], [3, 1, 1, 6]), (rows, steps))

    def test_the_greater_number_stays_at_other_columns(self):
        rows = [(0, 1, 1), (0, 1, 2), (3, 0, 0)]
        self.assertEqual(filled(3, [("settle", 1, 2)], [1, 1, 6]), (rows, [(0, 0, 1, 1)]))

    def test_one_part_that_has_all_columns(self):
        source = sample_source(63)
        for many in range(1, 8):
            rules = sample_rules(source, many, 12)
            self.assertEqual(filled(many, rules, [2 ** many - 1]), ([(0,) * many], []))

    def test_the_same_part_twice(self):
        self.assertEqual(filled(3, [], [3, 3, 4]), ([(0, 0, 1), (0, 0, 2), (3, 3, 0)], []))
        self.assertEqual(filled(3, [("settle", 1, 4)], [3, 3, 4]), ([(0, 0, 1), (0, 0, 1), (3, 3, 0)], [(0, 0, 1, 2)]))
        self.assertEqual(filled(2, [("settle", 0, 3)], [3, 3]), ([(0, 0), (0, 0)], []))

    def test_a_part_without_columns(self):
        self.assertEqual(filled(2, [], [0, 3]), ([(1, 1), (0, 0)], []))
        self.assertEqual(filled(2, [], [3, 0, 0]), ([(0, 0), (2, 2), (3, 3)], []))
        self.assertEqual(filled(2, [("settle", 0, 2)], [0, 3]), ([(1, 0), (0, 0)], [(0, 0, 1, 1)]))

    def test_ten_parts(self):
        self.assertEqual(filled(1, [], [0] * 9 + [1]), ([(k,) for k in range(1, 10)] + [(0,)], []))
        steps = [(0, 0, j, 0) for j in range(1, 10)]
        self.assertEqual(filled(1, [("settle", 0, 1)], [0] * 9 + [1]), ([(0,)] * 10, steps))
        steps = [(0, 0, j, c) for j in range(1, 10) for c in range(7)]
        self.assertEqual(filled(7, [("settle", 0, 127)], [0] * 9 + [127]), ([(0,) * 7] * 10, steps))

    def test_more_than_ten_parts(self):
        for parts in ([1] * 11, [0] * 11, [0] * 10 + [1], [127] * 12, [1, 2, 4] * 5):
            for many in (1, 3, 7):
                with self.assertRaises(TooMany):
                    filled(many, [("settle", 0, 1)], parts)
                with self.assertRaises(TooMany):
                    is_safe(many, [], parts)

    def test_parts_that_have_not_all_columns_together(self):
        for many in range(1, 8):
            whole = 2 ** many - 1
            for parts in ([], [0], [0] * 10, [whole - 1], [whole // 2], [whole // 2, 0, whole // 2], [whole - 1] * 10):
                with self.assertRaises(NoCut):
                    filled(many, [], parts)
                with self.assertRaises(NoCut):
                    filled(many, [("settle", 0, whole)], parts)
                with self.assertRaises(NoCut):
                    is_safe(many, [("settle", 0, whole)], parts)
        for missing in range(7):
            with self.assertRaises(SplitError):
                filled(7, [], [2 ** k for k in range(7) if k != missing])

    def test_as_the_words_of_the_document_say(self):
        source = sample_source(64)
        for many in range(1, 8):
            for turn in range(40):
                rules, parts = sample_rules(source, many, 12), sample_parts(source, many, 6)
                self.check(many, rules, parts)

    def test_ten_parts_of_seven_columns_by_twelve_rules(self):
        source = sample_source(65)
        for turn in range(12):
            rules = [("settle", source.randrange(128), source.randrange(128)) for number in range(12)]
            parts = sample_parts(source, 7, 1) + [source.randrange(128) for number in range(9)]
            self.check(7, rules, parts)

    def test_each_rule_and_each_two_parts_of_three_columns(self):
        for one, other in all_cuts(3):
            for left, right in itertools.product(range(8), repeat=2):
                self.check(3, [("settle", left, right)], [one, other])

    def check(self, many, rules, parts):
        told = filled(many, rules, parts)
        self.assertEqual(told, plain_filled(many, rules, parts), (many, rules, parts))
        self.assertEqual([type(value) for value in (told,) + told], [tuple, list, list])
        for value in told[0] + told[1]:
            self.assertIs(type(value), tuple)
            self.assertEqual({type(number) for number in value}, {int})
        self.assertEqual(len(told[0]), len(parts))
        self.assertLessEqual(len(told[1]), len(parts) * many)
        self.assertTrue(keeps(told[0], settling(rules)))

    def test_what_is_handed_in_stays_and_the_told_lists_are_new(self):
        rules, parts = [("deal", 1, 4), ("settle", 1, 4)], [3, 5]
        wanted = ([(0, 0, 0), (0, 2, 0)], [(1, 0, 1, 2)])
        told = filled(3, rules, parts)
        self.assertEqual((told, rules, parts), (wanted, [("deal", 1, 4), ("settle", 1, 4)], [3, 5]))
        told[0].clear()
        told[1].append((0, 0, 1, 2))
        again = filled(3, rules, parts)
        self.assertEqual(again, wanted)
        again[0].append((0, 0, 0))
        again[1].clear()
        self.assertEqual(filled(3, rules, parts), wanted)
        self.assertTrue(is_safe(3, rules, parts))
        bare = filled(3, [], parts)
        bare[0][0] = (0, 0, 0)
        bare[1].append((0, 0, 1, 2))
        self.assertEqual(filled(3, [], parts), ([(0, 0, 1), (0, 2, 0)], []))
        first = filled(3, rules, parts)
        rules.clear()
        self.assertEqual(filled(3, rules, parts)[1], [])
        parts.append(7)
        self.assertEqual(filled(3, rules, parts), ([(0, 0, 1), (0, 2, 0), (0, 0, 0)], []))
        self.assertEqual(first, wanted)
        parts.extend([1] * 8)
        with self.assertRaises(TooMany):
            filled(3, rules, parts)
        self.assertEqual((rules, parts), ([], [3, 5, 7] + [1] * 8))


class IsSafe(unittest.TestCase):
    def test_safe(self):
        self.assertIs(is_safe(*FIVE), True)
        self.assertIs(is_safe(3, [("settle", 1, 4)], [3, 5]), True)
        self.assertIs(is_safe(3, [("settle", 1, 2)], [3, 5]), True)
        self.assertIs(is_safe(3, [], [7]), True)
        self.assertIs(is_safe(3, [], [1, 7, 0]), True)
        self.assertIs(is_safe(4, [("settle", 2, 4), ("settle", 4, 8)], [3, 6, 12]), True)
        self.assertIs(is_safe(2, [("settle", 0, 1)], [1, 2]), True)

    def test_unsafe(self):
        self.assertIs(is_safe(3, [], [3, 5]), False)
        self.assertIs(is_safe(3, [("settle", 2, 1)], [3, 5]), False)
        self.assertIs(is_safe(3, [("settle", 2, 1), ("settle", 4, 1)], [3, 5]), False)
        self.assertIs(is_safe(2, [], [1, 2]), False)
        self.assertIs(is_safe(4, [("settle", 2, 4)], [3, 6, 12]), False)
        self.assertIs(is_safe(5, FIVE[1][:-1], FIVE[2]), False)

    def test_dealing_rules_are_passed_over(self):
        rules = [("deal", 1, 2)]
        self.assertEqual(cut_in_two(3, rules, 3, 5)[0], "safe")
        self.assertIs(is_safe(3, rules, [3, 5]), False)
        self.assertIs(is_safe(3, rules + [("settle", 1, 2)], [3, 5]), True)

    def test_a_row_of_one_number_that_is_no_nought(self):
        self.assertEqual(filled(2, [("settle", 0, 0)], [0, 1, 2])[0], [(1, 1), (0, 2), (3, 0)])
        self.assertIs(is_safe(2, [], [0, 1, 2]), False)

    def test_just_where_a_row_is_of_noughts_alone(self):
        source = sample_source(66)
        seen = {True: 0, False: 0}
        for many in range(1, 8):
            for turn in range(40):
                rules, parts = sample_rules(source, many, 12), sample_parts(source, many, 10)
                wanted = any(not any(row) for row in filled(many, rules, parts)[0])
                self.assertIs(is_safe(many, rules, parts), wanted)
                seen[wanted] += 1
        self.assertGreater(min(seen.values()), 40)

    def test_two_parts_as_cut_in_two(self):
        source = sample_source(67)
        for many in range(1, 8):
            for turn in range(40):
                rules = settling(sample_rules(source, many, 12))
                one, other = sample_cut(source, many)
                wanted = cut_in_two(many, rules, one, other)[0] == "safe"
                self.assertIs(is_safe(many, rules, [one, other]), wanted)

    def test_two_parts_as_cut_in_two_by_all_pairs_of_rules_of_two_columns(self):
        rules = list(itertools.product(("settle",), range(4), range(4)))
        for one, other in all_cuts(2):
            for pair in itertools.product(rules, repeat=2):
                wanted = cut_in_two(2, list(pair), one, other)[0] == "safe"
                self.assertIs(is_safe(2, list(pair), [one, other]), wanted)

    def test_two_parts_as_cut_in_two_by_each_rule_of_three_columns(self):
        for one, other in all_cuts(3):
            for left, right in itertools.product(range(8), repeat=2):
                rules = [("settle", left, right)]
                self.assertIs(is_safe(3, rules, [one, other]), cut_in_two(3, rules, one, other)[0] == "safe")

    def test_a_filled_table_without_a_row_of_noughts_shows_what_is_gained(self):
        source = sample_source(68)
        shown = 0
        for many in range(1, 8):
            for turn in range(40):
                rules, parts = settling(sample_rules(source, many, 4)), sample_parts(source, many, 5)
                if not is_safe(many, rules, parts):
                    book = filled(many, rules, parts)[0]
                    self.assertTrue(plain_keeps(book, rules) and keeps(book, rules))
                    self.assertNotIn((0,) * many, book)
                    self.assertIn((0,) * many, put_again(book, parts))
                    self.assertIn((0,) * many, put_again_by_the_program(book, parts))
                    shown += 1
        self.assertGreater(shown, 60)

    def test_a_safe_cut_loses_and_gains_nothing(self):
        source = sample_source(69)
        shown = 0
        for turn in range(300):
            rules, parts = settling(sample_rules(source, 4, 6)), sample_parts(source, 4, 4)
            if 15 not in parts and is_safe(4, rules, parts):
                book = keeping_book(sample_book(source, 4, 6, (0, 1, 2)), rules)
                self.assertEqual(put_again(book, parts), book)
                shown += 1
        self.assertGreater(shown, 30)

    def test_all_books_of_three_columns(self):
        source = sample_source(70)
        books = all_books(3)
        for turn in range(25):
            rules, parts = settling(sample_rules(source, 3, 5)), sample_parts(source, 3, 3)
            if is_safe(3, rules, parts):
                for book in books:
                    if plain_keeps(book, rules):
                        self.assertEqual(put_again(book, parts), book)

    def test_the_order_of_the_parts_and_rules_changes_nothing(self):
        source = sample_source(71)
        for many in range(1, 8):
            for turn in range(10):
                rules, parts = sample_rules(source, many, 12), sample_parts(source, many, 8)
                wanted = is_safe(many, rules, parts)
                self.assertIs(is_safe(many, rules[::-1], parts), wanted)
                self.assertIs(is_safe(many, rules, parts[::-1]), wanted)
                self.assertIs(is_safe(many, rules, parts + parts[:1]), wanted)

    def test_columns_put_in_another_order(self):
        source = sample_source(72)
        for many in range(1, 8):
            for turn in range(10):
                rules, parts = sample_rules(source, many, 12), sample_parts(source, many, 8)
                order = sample_order(source, many)
                turned_parts = [turned(part, order) for part in parts]
                self.assertIs(is_safe(many, turned_rules(rules, order), turned_parts), is_safe(many, rules, parts))

    def test_what_is_handed_in_stays(self):
        rules, parts = list(FIVE[1]), list(FIVE[2])
        self.assertTrue(is_safe(5, rules, parts))
        self.assertEqual((rules, parts), (FIVE[1], FIVE[2]))
        rules.pop()
        self.assertFalse(is_safe(5, rules, parts))
        with self.assertRaises(NoCut):
            is_safe(5, rules, parts[:2])
        self.assertTrue(is_safe(*FIVE))


if __name__ == "__main__":
    unittest.main()
