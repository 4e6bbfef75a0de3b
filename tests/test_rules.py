"""Points 2, 6, 7 and 8: rows, rules, and whether books keep them."""

import unittest

from samples import (BIG, columns, plain_alike, plain_breaches, plain_mixed, sample_book, sample_rule,
                     sample_source)
from splithouse.books import alike, book_of, breach, keeps, mixed, put_together, seen_on


class AlikeAndMixed(unittest.TestCase):
    def test_written_ones(self):
        self.assertIs(alike((1, 2, 3), (1, 5, 3), 0b101), True)
        self.assertIs(alike((1, 2, 3), (1, 5, 3), 0b111), False)
        self.assertIs(alike((1, 2, 3), (1, 5, 3), 0b010), False)
        self.assertEqual(mixed((1, 2, 3), (4, 5, 6), 0b101), (1, 5, 3))
        self.assertEqual(mixed((4,), (5,), 1), (4,))

    def test_on_the_set_without_columns_each_two_rows_are_alike(self):
        self.assertIs(alike((1, 2), (3, 4), 0), True)
        self.assertEqual(mixed((1, 2), (3, 4), 0), (3, 4))

    def test_on_all_columns(self):
        self.assertIs(alike((1, 2), (1, 2), 3), True)
        self.assertIs(alike((1, 2), (1, 3), 3), False)
        self.assertEqual(mixed((1, 2), (3, 4), 3), (1, 2))

    def test_numbers_of_sixty_figures(self):
        self.assertIs(alike((BIG, -BIG), (BIG, -BIG), 3), True)
        self.assertIs(alike((BIG, -BIG), (BIG - 1, -BIG), 1), False)
        self.assertIs(alike((BIG, -BIG), (BIG, 1 - BIG), 2), False)
        self.assertIs(alike((BIG,), (-BIG,), 1), False)
        self.assertEqual(mixed((BIG, 0), (1, -BIG), 1), (BIG, -BIG))

    def test_many_rows(self):
        source = sample_source(1)
        for many in range(1, 8):
            for turn in range(200):
                one, other = sample_book(source, many, 2)
                some = source.randrange(2 ** many)
                self.assertIs(alike(one, other, some), plain_alike(one, other, some))
                told = mixed(one, other, some)
                self.assertIs(type(told), tuple)
                self.assertEqual(told, plain_mixed(one, other, some))


class Breach(unittest.TestCase):
    def test_a_settling_rule_that_is_kept(self):
        book = [(1, 5, 0), (2, 5, 1), (1, 5, 2)]
        self.assertIsNone(breach(book, ("settle", 1, 2)))
        self.assertIsNone(breach(book, ("settle", 0, 2)))

    def test_a_settling_rule_that_is_broken(self):
        book = [(2, 7), (1, 5), (3, 5), (1, 6)]
        self.assertIn(breach(book, ("settle", 1, 2)), [((1, 5), (1, 6)), ((1, 6), (1, 5))])

    def test_a_settling_rule_with_some_of_its_right_alike(self):
        book = [(1, 5, 4), (1, 5, 3)]
        self.assertIsNone(breach(book, ("settle", 1, 2)))
        self.assertIsNotNone(breach(book, ("settle", 1, 6)))

    def test_a_dealing_rule_that_is_kept(self):
        book = [(0, 1, 3), (0, 2, 4), (0, 1, 4), (0, 2, 3), (1, 1, 5)]
        self.assertIsNone(breach(book, ("deal", 1, 2)))
        self.assertIsNone(breach(book, ("deal", 1, 3)))
        self.assertIsNone(breach(book, ("deal", 1, 4)))

    def test_a_dealing_rule_that_is_broken_by_two_rows_in_one_order_alone(self):
        book = [(0, 0), (0, 1), (1, 0)]
        self.assertEqual(breach(book, ("deal", 0, 1)), ((1, 0), (0, 1)))
        self.assertEqual(breach(book, ("deal", 0, 2)), ((0, 1), (1, 0)))

    def test_of_the_one_the_left_and_the_right_are_taken(self):
        book = [(7, 0, 0), (7, 0, 1), (7, 1, 0), (8, 1, 1)]
        self.assertEqual(breach(book, ("deal", 1, 2)), ((7, 1, 0), (7, 0, 1)))
        self.assertEqual(breach(book, ("deal", 1, 3)), ((7, 1, 0), (7, 0, 1)))

    def test_a_right_of_no_column_or_of_all_the_rest_deals_nothing(self):
        book = [(0, 0, 0), (0, 1, 1), (1, 0, 1)]
        for left in range(8):
            self.assertIsNone(breach(book, ("deal", left, 0)))
            self.assertIsNone(breach(book, ("deal", left, 7 - left)))
            self.assertIsNone(breach(book, ("deal", left, 7)))
            self.assertIsNone(breach(book, ("settle", left, left)))
            self.assertIsNone(breach(book, ("settle", left, 0)))

    def test_a_book_without_rows_and_one_of_rows_alike_keep_every_rule(self):
        for book in ([], [(4, -1, 9)], [(4, -1, 9)] * 3):
            for left in range(8):
                for right in range(8):
                    self.assertIsNone(breach(book, ("settle", left, right)))
                    self.assertIsNone(breach(book, ("deal", left, right)))

    def test_rows_that_are_alike_count_once(self):
        book = [(0, 0), (1, 1), (0, 0), (1, 1), (0, 1), (0, 1)]
        self.assertEqual(breach(book, ("deal", 0, 1)), ((1, 1), (0, 0)))
        self.assertIsNone(breach(book + [(1, 0)], ("deal", 0, 1)))

    def test_numbers_of_sixty_figures(self):
        book = [(BIG, -BIG), (BIG - 1, BIG), (BIG, -BIG)]
        self.assertIsNone(breach(book, ("settle", 1, 2)))
        book = [(-BIG, BIG), (-BIG, BIG - 1)]
        self.assertIn(breach(book, ("settle", 1, 2)), [tuple(book), (book[1], book[0])])
        book = [(BIG, -BIG), (-BIG, BIG), (BIG, BIG)]
        self.assertEqual(breach(book, ("deal", 0, 1)), ((-BIG, BIG), (BIG, -BIG)))

    def test_told_is_one_of_the_breaches_just_where_there_are_some(self):
        source = sample_source(2)
        for many in range(1, 8):
            for turn in range(300):
                book = sample_book(source, many, source.randrange(17))
                rule = sample_rule(source, many)
                self.check(book, rule)

    def test_books_that_keep_more(self):
        source = sample_source(3)
        for turn in range(300):
            part, beside = source.randrange(32), source.randrange(32)
            book = sample_book(source, 5, source.randrange(1, 7), (0, 1, 2))
            told = put_together(book, part, book, beside)
            self.check(told, ("deal", part & beside, part))
            self.check(told[1:], ("deal", part & beside, beside))

    def check(self, book, rule):
        wanted = plain_breaches(book, rule)
        told = breach(book, rule)
        if wanted:
            self.assertIs(type(told), tuple)
            self.assertIn(told, wanted)
        else:
            self.assertIsNone(told)


class Keeps(unittest.TestCase):
    def test_no_rules_at_all(self):
        self.assertIs(keeps([], []), True)
        self.assertIs(keeps([(0, 0), (1, 1), (0, 1)], []), True)

    def test_all_rules_must_be_kept(self):
        book = [(1, 5, 0), (2, 6, 0), (3, 5, 0)]
        kept, broken = ("settle", 1, 2), ("settle", 2, 1)
        self.assertIs(keeps(book, [kept]), True)
        self.assertIs(keeps(book, [broken]), False)
        self.assertIs(keeps(book, [kept, broken]), False)
        self.assertIs(keeps(book, [broken, kept]), False)
        self.assertIs(keeps([], [kept, broken, ("deal", 0, 1)]), True)

    def test_sixty_rules(self):
        book = [(row, row // 2, 0, row, row % 3, row // 4, 1) for row in range(16)]
        kept = [("settle", 1, right) for right in range(128)][-59:]
        self.assertIs(keeps(book, kept), True)
        self.assertIs(keeps(book, kept + [("deal", 1, 2)]), True)
        self.assertIs(keeps(book, kept + [("settle", 2, 1)]), False)
        self.assertIs(keeps(book, kept + [("deal", 0, 1)]), False)
        self.assertIs(keeps(book, [("deal", 0, 1)] + kept), False)

    def test_books_of_up_to_sixteen_rows(self):
        source = sample_source(4)
        for many in range(1, 8):
            for turn in range(100):
                book = sample_book(source, many, source.randrange(17), (0, -BIG, BIG))
                rules = [sample_rule(source, many) for rule in range(source.randrange(4))]
                wanted = all(not plain_breaches(book, rule) for rule in rules)
                self.assertIs(keeps(book, rules), wanted)

    def test_told_books_handed_on(self):
        one = [(0, row, row * row, 0, 0) for row in range(16)]
        other = [(0, 0, 0, row, -row) for row in range(16)]
        told = put_together(one, 0b00110, other, 0b11000)
        self.assertEqual(len(told), 256)
        rules = [("settle", 2, 4), ("settle", 8, 16), ("deal", 0, 6), ("deal", 1, 24), ("deal", 2, 4)] * 12
        self.assertIs(keeps(told, rules), True)
        self.assertIs(keeps(told[:-1], rules), False)
        self.assertIs(keeps(told, rules + [("settle", 2, 8)]), False)


class BookOf(unittest.TestCase):
    def test_written_ones(self):
        self.assertEqual(book_of(1, 1), [(0,), (1,)])
        self.assertEqual(book_of(4, 0b1010), [(0, 0, 0, 0), (0, 1, 0, 1)])
        self.assertEqual(book_of(7, 127), [(0,) * 7, (1,) * 7])

    def test_of_the_set_without_columns_it_has_one_row(self):
        for many in range(1, 8):
            self.assertEqual(book_of(many, 0), [(0,) * many])

    def test_every_set_of_seven_columns(self):
        for some in range(1, 128):
            wanted = [(0,) * 7, tuple(int(k in columns(some)) for k in range(7))]
            self.assertEqual(book_of(7, some), wanted)

    def test_it_keeps_just_the_rules_that_point_8_tells(self):
        for many in range(1, 5):
            for some in range(2 ** many):
                for left in range(2 ** many):
                    for right in range(2 ** many):
                        self.check(many, some, left, right)

    def test_it_keeps_just_those_with_seven_columns_too(self):
        source = sample_source(5)
        for turn in range(2000):
            self.check(7, source.randrange(128), source.randrange(128), source.randrange(128))

    def check(self, many, some, left, right):
        book = book_of(many, some)
        apart = left & some == 0
        self.assertIs(keeps(book, [("settle", left, right)]), not (apart and right & some != 0))
        self.assertIs(keeps(book, [("deal", left, right)]), not (apart and right & some not in (0, some)))

    def test_the_told_list_is_new(self):
        for some in (0, 5):
            wanted = list(book_of(3, some))
            book_of(3, some).append((9, 9, 9))
            book_of(3, some)[0] = (8, 8, 8)
            self.assertEqual(book_of(3, some), wanted)


class HandedIn(unittest.TestCase):
    def test_it_stays_as_it_is(self):
        book = [(1, 2, 3), (0, 5, 3), (1, 2, 3), (1, 7, 4)]
        rules = [("settle", 4, 1), ("deal", 1, 2), ("settle", 1, 2)]
        kept_book, kept_rules = list(book), list(rules)
        keeps(book, rules)
        for rule in rules:
            breach(book, rule)
        seen_on(book, 3)
        self.assertEqual(book, kept_book)
        self.assertEqual(rules, kept_rules)

    def test_what_is_changed_later_changes_no_later_answer(self):
        book = [(0, 0), (1, 1)]
        rules = [("settle", 1, 2)]
        self.assertIs(keeps(book, rules), True)
        self.assertIsNone(breach(book, rules[0]))
        book.append((0, 1))
        self.assertIs(keeps(book, rules), False)
        self.assertIsNotNone(breach(book, rules[0]))
        rules.clear()
        self.assertIs(keeps(book, rules), True)
        self.assertIs(keeps([(0, 0), (1, 1)], [("settle", 1, 2)]), True)


if __name__ == "__main__":
    unittest.main()
