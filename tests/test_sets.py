"""Points 2, 4 and 5: sets of columns."""

import itertools
import unittest

from samples import columns
from splithouse.sets import all_of, columns_of, is_within, sets_within, size_of, turned


class ColumnsOf(unittest.TestCase):
    def test_written_ones(self):
        self.assertEqual(columns_of(0), [])
        self.assertEqual(columns_of(1), [0])
        self.assertEqual(columns_of(0b1010010), [1, 4, 6])
        self.assertEqual(columns_of(127), [0, 1, 2, 3, 4, 5, 6])

    def test_every_set_is_the_sum_of_its_columns(self):
        for some in range(128):
            told = columns_of(some)
            self.assertIs(type(told), list)
            self.assertEqual(told, sorted(set(told)))
            self.assertEqual(sum(2 ** k for k in told), some)

    def test_the_told_list_is_new(self):
        columns_of(6).append(9)
        columns_of(6).clear()
        self.assertEqual(columns_of(6), [1, 2])


class SizeOfAndAllOf(unittest.TestCase):
    def test_size(self):
        self.assertEqual([size_of(some) for some in range(9)], [0, 1, 1, 2, 1, 2, 2, 3, 1])
        for some in range(128):
            self.assertEqual(size_of(some), bin(some).count("1"))

    def test_all_columns(self):
        self.assertEqual([all_of(many) for many in range(1, 8)], [1, 3, 7, 15, 31, 63, 127])

    def test_whole_numbers_are_told(self):
        self.assertIs(type(size_of(5)), int)
        self.assertIs(type(all_of(3)), int)
        self.assertIs(type(turned(0, [0])), int)


class IsWithin(unittest.TestCase):
    def test_written_ones(self):
        self.assertIs(is_within(0, 0), True)
        self.assertIs(is_within(0, 127), True)
        self.assertIs(is_within(127, 127), True)
        self.assertIs(is_within(5, 7), True)
        self.assertIs(is_within(7, 5), False)
        self.assertIs(is_within(1, 2), False)
        self.assertIs(is_within(1, 0), False)

    def test_each_two_sets(self):
        for one in range(128):
            for other in range(128):
                self.assertIs(is_within(one, other), columns(one) <= columns(other))


class SetsWithin(unittest.TestCase):
    def test_written_ones(self):
        self.assertEqual(sets_within(0), [0])
        self.assertEqual(sets_within(1), [0, 1])
        self.assertEqual(sets_within(64), [0, 64])
        self.assertEqual(sets_within(0b1101), [0, 1, 4, 8, 5, 9, 12, 13])

    def test_fewer_columns_come_first_whatever_the_numbers(self):
        told = sets_within(127)
        self.assertLess(told.index(64), told.index(3))
        self.assertLess(told.index(0b1100000), told.index(7))

    def test_every_set(self):
        for some in range(128):
            inner = [one for one in range(128) if columns(one) <= columns(some)]
            wanted = sorted(inner, key=lambda one: (len(columns(one)), one))
            self.assertEqual(sets_within(some), wanted)

    def test_the_told_list_is_new(self):
        told = sets_within(3)
        told.reverse()
        told.append(99)
        self.assertEqual(sets_within(3), [0, 1, 2, 3])


class Turned(unittest.TestCase):
    def test_written_ones(self):
        self.assertEqual(turned(0b001, [2, 0, 1]), 0b100)
        self.assertEqual(turned(0b010, [2, 0, 1]), 0b001)
        self.assertEqual(turned(0b110, [2, 0, 1]), 0b011)
        self.assertEqual(turned(1, [0]), 1)

    def test_the_set_without_columns_and_that_of_all(self):
        for many in range(1, 8):
            order = list(range(1, many)) + [0]
            self.assertEqual(turned(0, order), 0)
            self.assertEqual(turned(2 ** many - 1, order), 2 ** many - 1)

    def test_the_plain_order_changes_no_set(self):
        for some in range(128):
            self.assertEqual(turned(some, [0, 1, 2, 3, 4, 5, 6]), some)

    def test_every_order_of_four_columns(self):
        for order in itertools.permutations(range(4)):
            for some in range(16):
                self.assertEqual(columns(turned(some, list(order))), {order[k] for k in columns(some)})

    def test_seven_columns(self):
        order = [3, 6, 0, 5, 1, 2, 4]
        for some in range(128):
            self.assertEqual(columns(turned(some, order)), {order[k] for k in columns(some)})

    def test_the_order_stays_as_it_is_and_may_be_changed_later(self):
        order = [1, 2, 0]
        self.assertEqual(turned(3, order), 6)
        self.assertEqual(order, [1, 2, 0])
        order.reverse()
        self.assertEqual(turned(3, order), 5)
        self.assertEqual(turned(3, [1, 2, 0]), 6)


if __name__ == "__main__":
    unittest.main()
