"""Points 2 and 9: books seen on sets, and put together."""

import unittest

from samples import BIG, plain_seen, plain_together, sample_book, sample_source
from splithouse.books import book_of, keeps, put_together, seen_on


class SeenOn(unittest.TestCase):
    def test_written_ones(self):
        book = [(2, 1, 5), (1, 9, 5), (2, 8, 5), (1, 9, 4)]
        self.assertEqual(seen_on(book, 0b001), [(1, 0, 0), (2, 0, 0)])
        self.assertEqual(seen_on(book, 0b110), [(0, 1, 5), (0, 8, 5), (0, 9, 4), (0, 9, 5)])

    def test_on_all_columns_it_is_the_book_in_order(self):
        book = [(2, 1), (1, 9), (2, 1), (-1, 5)]
        self.assertEqual(seen_on(book, 3), [(-1, 5), (1, 9), (2, 1)])

    def test_on_the_set_without_columns(self):
        self.assertEqual(seen_on([(2, 1), (3, 4)], 0), [(0, 0)])
        self.assertEqual(seen_on([], 0), [])

    def test_a_book_without_rows(self):
        self.assertEqual(seen_on([], 127), [])

    def test_rows_stand_in_the_order_of_tuples(self):
        book = [(10, 0), (9, 0), (-10, 0), (BIG, 0), (-BIG, 0), (9, -1)]
        self.assertEqual(seen_on(book, 3), [(-BIG, 0), (-10, 0), (9, -1), (9, 0), (10, 0), (BIG, 0)])

    def test_many_books(self):
        source = sample_source(6)
        for many in range(1, 8):
            for turn in range(100):
                book = sample_book(source, many, source.randrange(17), (-1, 0, 1, BIG))
                part = source.randrange(2 ** many)
                told = seen_on(book, part)
                self.assertIs(type(told), list)
                self.assertEqual(told, plain_seen(book, part))
                self.assertEqual(seen_on(told, part), told)

    def test_the_told_list_is_new(self):
        book = [(0, 0), (0, 1)]
        told = seen_on(book, 3)
        told.append((7, 7))
        self.assertEqual(book, [(0, 0), (0, 1)])
        self.assertEqual(seen_on(book, 3), [(0, 0), (0, 1)])


class PutTogether(unittest.TestCase):
    def test_a_column_in_both(self):
        one = [(1, 5, 0), (2, 6, 0)]
        other = [(0, 5, 8), (0, 5, 7), (0, 4, 9)]
        self.assertEqual(put_together(one, 0b011, other, 0b110), [(1, 5, 7), (1, 5, 8)])

    def test_other_columns_than_those_of_the_part_do_not_count(self):
        one = [(1, 5, 3), (2, 6, -3), (1, 5, 4)]
        other = [(8, 5, 8), (9, 5, 7), (7, 4, 9), (6, 5, 7)]
        self.assertEqual(put_together(one, 0b011, other, 0b110), [(1, 5, 7), (1, 5, 8)])
        self.assertEqual(put_together([(1, 2, 3)], 0b001, [(4, 5, 6)], 0b010), [(1, 5, 0)])

    def test_no_column_in_both(self):
        told = put_together([(2, 9), (1, 9)], 1, [(9, 4), (9, 3)], 2)
        self.assertEqual(told, [(1, 3), (1, 4), (2, 3), (2, 4)])
        told = put_together([(9, 4), (9, 3)], 2, [(2, 9), (1, 9)], 1)
        self.assertEqual(told, [(1, 3), (1, 4), (2, 3), (2, 4)])

    def test_the_same_columns(self):
        one = [(1, 2, 0), (3, 4, 1), (5, 6, 2)]
        other = [(5, 6, 7), (1, 2, 8), (1, 3, 9)]
        self.assertEqual(put_together(one, 3, other, 3), [(1, 2, 0), (5, 6, 0)])
        self.assertEqual(put_together(one, 7, one, 7), one)

    def test_a_part_within_the_other(self):
        one = [(1, 2, 3), (1, 3, 3), (2, 2, 4)]
        self.assertEqual(put_together(one, 7, [(1, 0, 0)], 1), [(1, 2, 3), (1, 3, 3)])
        self.assertEqual(put_together([(1, 0, 0)], 1, one, 7), [(1, 2, 3), (1, 3, 3)])

    def test_the_set_without_columns(self):
        book = [(1, 2), (3, 4)]
        self.assertEqual(put_together(book, 0, book, 0), [(0, 0)])
        self.assertEqual(put_together(book, 0, book, 1), [(1, 0), (3, 0)])
        self.assertEqual(put_together(book, 3, book, 0), book)

    def test_a_book_without_rows(self):
        book = [(1, 2), (3, 4)]
        for part in range(4):
            for beside in range(4):
                self.assertEqual(put_together([], part, book, beside), [])
                self.assertEqual(put_together(book, part, [], beside), [])
                self.assertEqual(put_together([], part, [], beside), [])

    def test_numbers_of_sixty_figures(self):
        told = put_together([(BIG, -BIG, 0)], 3, [(0, -BIG, BIG), (0, 1 - BIG, 5)], 6)
        self.assertEqual(told, [(BIG, -BIG, BIG)])

    def test_a_book_of_two_rows_gains_some(self):
        book = book_of(3, 0b101)
        told = put_together(book, 0b011, book, 0b110)
        self.assertEqual(told, [(0, 0, 0), (0, 0, 1), (1, 0, 0), (1, 0, 1)])

    def test_many_books(self):
        source = sample_source(7)
        for many in range(1, 8):
            for turn in range(100):
                one = sample_book(source, many, source.randrange(17), (0, 1, -BIG))
                other = sample_book(source, many, source.randrange(17), (0, 1, -BIG))
                part, beside = source.randrange(2 ** many), source.randrange(2 ** many)
                told = put_together(one, part, other, beside)
                self.assertIs(type(told), list)
                self.assertEqual(told, plain_together(one, part, other, beside))

    def test_told_books_handed_on(self):
        books = [[tuple(row * (k == column) for k in range(3)) for row in range(16)] for column in range(3)]
        two = put_together(books[0], 1, books[1], 2)
        self.assertEqual(len(two), 256)
        three = put_together(two, 3, books[2], 4)
        self.assertEqual(three, [(a, b, c) for a in range(16) for b in range(16) for c in range(16)])
        self.assertEqual(put_together(seen_on(three, 3), 3, seen_on(three, 6), 6), three)
        self.assertIs(keeps(three, [("deal", 0, 1), ("deal", 0, 2), ("deal", 1, 4)]), True)
        self.assertIs(keeps(three, [("settle", 3, 4)]), False)

    def test_what_is_handed_in_stays_and_the_told_list_is_new(self):
        one, other = [(1, 5), (0, 5), (1, 5)], [(5, 3), (1, 2), (0, 4)]
        kept_one, kept_other = list(one), list(other)
        told = put_together(one, 1, other, 3)
        self.assertEqual((one, other), (kept_one, kept_other))
        wanted = list(told)
        told.clear()
        self.assertEqual(put_together(one, 1, other, 3), wanted)
        one.clear()
        other.append((9, 9))
        self.assertEqual(put_together(kept_one, 1, kept_other, 3), wanted)

    def test_one_book_handed_in_twice_stays_as_it_is(self):
        book = [(3, 1), (2, 1)]
        put_together(book, 1, book, 2)
        self.assertEqual(book, [(3, 1), (2, 1)])


if __name__ == "__main__":
    unittest.main()
