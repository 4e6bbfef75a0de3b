"""Points 2 and 18: keys."""

import itertools
import unittest

from samples import (columns, keeping_book, keeping_sets, plain_alike, sample_book, sample_order, sample_rules,
                     sample_source, turned_rules)
from splithouse.follows import follows
from splithouse.keys import keys
from splithouse.sets import turned

WORDS = ("settle", "deal")

MANY_KEYS = [("settle", 9, 2), ("settle", 48, 4), ("settle", 80, 8), ("settle", 68, 2), ("deal", 33, 84),
             ("settle", 72, 16), ("settle", 44, 64), ("settle", 9, 32), ("settle", 10, 1), ("settle", 34, 8),
             ("settle", 3, 32), ("settle", 20, 32)]


def wholes(many, rules):
    """The sets that settle all columns: each set whose book keeps the rules has a column of such a one, or is 0."""
    there = keeping_sets(many, rules)
    return [some for some in range(2 ** many) if all(some & block for block in there if block)]


def plain_keys(many, rules):
    """Point 18: what settles all columns, and does so with no column less."""
    there = set(wholes(many, rules))
    least = [some for some in there if not any(some - 2 ** k in there for k in columns(some))]
    return sorted(least, key=lambda some: (len(columns(some)), some))


def whole_rule(many, some):
    return ("settle", some, 2 ** many - 1)


class Keys(unittest.TestCase):
    def test_no_rules(self):
        for many in range(1, 8):
            self.assertEqual(keys(many, []), [2 ** many - 1])

    def test_rules_that_say_nothing(self):
        for many in range(1, 8):
            whole = 2 ** many - 1
            rules = [("settle", whole, whole), ("settle", 1, 1), ("settle", 1, 0), ("deal", 0, whole), ("deal", 1, 0)]
            self.assertEqual(keys(many, rules), [whole])

    def test_one_key(self):
        self.assertEqual(keys(3, [("settle", 1, 2), ("settle", 2, 4)]), [1])
        self.assertEqual(keys(3, [("settle", 1, 2)]), [5])
        self.assertEqual(keys(3, [("settle", 3, 4)]), [3])
        self.assertEqual(keys(4, [("settle", 4, 2), ("settle", 2, 1)]), [12])

    def test_a_left_without_columns(self):
        self.assertEqual(keys(3, [("settle", 0, 7)]), [0])
        self.assertEqual(keys(3, [("settle", 0, 3)]), [4])
        self.assertEqual(keys(3, [("settle", 0, 1), ("settle", 1, 6)]), [0])
        self.assertEqual(keys(3, [("settle", 1, 6), ("settle", 0, 1)]), [0])
        self.assertEqual(keys(1, [("settle", 0, 1)]), [0])
        self.assertEqual(keys(7, [("settle", 0, 127)]), [0])

    def test_zero_is_no_key_without_such_a_rule(self):
        self.assertEqual(keys(1, []), [1])
        self.assertEqual(keys(1, [("settle", 1, 1), ("deal", 0, 1)]), [1])

    def test_several_keys(self):
        self.assertEqual(keys(2, [("settle", 1, 2), ("settle", 2, 1)]), [1, 2])
        rules = [("settle", 1, 2), ("settle", 2, 1), ("settle", 4, 8), ("settle", 8, 4)]
        self.assertEqual(keys(4, rules), [5, 6, 9, 10])
        self.assertEqual(keys(4, rules[::-1]), [5, 6, 9, 10])

    def test_keys_with_fewer_columns_come_first(self):
        self.assertEqual(keys(3, [("settle", 4, 3), ("settle", 3, 4)]), [4, 3])
        self.assertEqual(keys(4, [("settle", 7, 8), ("settle", 8, 7)]), [8, 7])
        self.assertEqual(keys(4, [("settle", 8, 7), ("settle", 6, 8), ("settle", 1, 6)]), [1, 8, 6])
        self.assertEqual(keys(5, [("settle", 7, 24), ("settle", 24, 7), ("settle", 12, 19)]), [12, 24, 7])

    def test_a_key_need_stand_at_no_left(self):
        self.assertEqual(keys(3, [("settle", 3, 4), ("settle", 4, 2)]), [3, 5])
        self.assertEqual(keys(4, [("settle", 1, 2), ("settle", 4, 8)]), [5])

    def test_dealing_rules_alone_settle_nothing(self):
        source = sample_source(41)
        for many in range(1, 8):
            for turn in range(20):
                rules = [("deal", left, right) for word, left, right in sample_rules(source, many, 12)]
                self.assertEqual(keys(many, rules), [2 ** many - 1])

    def test_dealing_rules_by_which_a_settling_rule_follows(self):
        self.assertEqual(keys(3, [("settle", 2, 4)]), [3])
        self.assertEqual(keys(3, [("settle", 2, 4), ("deal", 1, 2)]), [3])
        self.assertEqual(keys(3, [("settle", 2, 4), ("settle", 4, 2)]), [3, 5])
        self.assertEqual(keys(3, [("settle", 2, 4), ("settle", 4, 2), ("deal", 1, 2)]), [1])
        self.assertEqual(keys(4, [("settle", 4, 8), ("settle", 9, 6)]), [5, 9])
        self.assertEqual(keys(4, [("settle", 4, 8), ("settle", 9, 6), ("deal", 1, 4)]), [1])
        self.assertEqual(keys(4, [("settle", 4, 10), ("settle", 8, 4), ("deal", 0, 4)]), [1])

    def test_many_keys_of_seven_columns(self):
        self.assertEqual(keys(7, [("settle", 2 ** k, 2 ** ((k + 1) % 7)) for k in range(7)]),
                         [1, 2, 4, 8, 16, 32, 64])
        self.assertEqual(keys(7, [("settle", 127 - 2 ** k, 127) for k in range(7)]),
                         [63, 95, 111, 119, 123, 125, 126])
        pairs = [("settle", 1, 2), ("settle", 2, 1), ("settle", 4, 8), ("settle", 8, 4), ("settle", 16, 32),
                 ("settle", 32, 64), ("settle", 64, 16)]
        self.assertEqual(keys(7, pairs), [21, 22, 25, 26, 37, 38, 41, 42, 69, 70, 73, 74])
        told = keys(7, MANY_KEYS)
        self.assertEqual(len(told), 28)
        self.assertEqual(told, plain_keys(7, MANY_KEYS))

    def test_twelve_rules_with_a_key_each(self):
        lefts = [sum(2 ** k for k in some) for some in itertools.combinations(range(7), 3)][:24:2]
        self.assertEqual(keys(7, [("settle", left, 127) for left in lefts]), sorted(lefts))

    def test_all_pairs_of_rules_of_two_columns(self):
        all_rules = list(itertools.product(WORDS, range(4), range(4)))
        for rules in itertools.product(all_rules, repeat=2):
            self.assertEqual(keys(2, list(rules)), plain_keys(2, rules), rules)

    def test_as_the_words_of_the_document_say(self):
        source = sample_source(42)
        for many in range(1, 8):
            for turn in range(30):
                rules = sample_rules(source, many, 12)
                told = keys(many, rules)
                self.assertEqual(told, plain_keys(many, rules), (many, rules))
                self.assertIs(type(told), list)
                self.assertEqual({type(key) for key in told}, {int})

    def test_each_settles_all_and_no_column_of_it_can_be_left_out(self):
        source = sample_source(43)
        for many in range(1, 8):
            for turn in range(15):
                rules = sample_rules(source, many, 10)
                for key in keys(many, rules):
                    self.assertEqual(follows(many, rules, whole_rule(many, key))[0], "yes")
                    for k in columns(key):
                        self.assertEqual(follows(many, rules, whole_rule(many, key - 2 ** k))[0], "no")

    def test_each_set_that_settles_all_columns_holds_a_key(self):
        source = sample_source(44)
        for many in range(1, 8):
            for turn in range(10):
                rules = sample_rules(source, many, 10)
                told = keys(many, rules)
                self.assertNotEqual(told, [])
                for some in range(2 ** many):
                    holds = any(columns(key) <= columns(some) for key in told)
                    self.assertEqual(holds, follows(many, rules, whole_rule(many, some))[0] == "yes")

    def test_no_two_rows_of_a_book_that_keeps_the_rules_are_alike_on_a_key(self):
        source = sample_source(45)
        for turn in range(60):
            rules = sample_rules(source, 4, 5)
            book = keeping_book(sample_book(source, 4, 4, (0, 1, 2)), rules)
            for key in keys(4, rules):
                for one, other in itertools.combinations(book, 2):
                    self.assertFalse(plain_alike(one, other, key))

    def test_columns_put_in_another_order(self):
        source = sample_source(46)
        for many in range(1, 8):
            for turn in range(10):
                rules, order = sample_rules(source, many, 10), sample_order(source, many)
                told = keys(many, turned_rules(rules, order))
                self.assertEqual(sorted(told), sorted(turned(key, order) for key in keys(many, rules)))

    def test_what_is_handed_in_stays_and_the_told_list_is_new(self):
        rules = [("settle", 4, 3), ("settle", 3, 4), ("deal", 4, 2)]
        kept = list(rules)
        told = keys(3, rules)
        self.assertEqual((told, rules), ([4, 3], kept))
        told.append(7)
        again = keys(3, rules)
        self.assertEqual(again, [4, 3])
        again.clear()
        self.assertEqual(keys(3, rules), [4, 3])
        keys(3, []).append(0)
        self.assertEqual(keys(3, []), [7])
        first = keys(3, rules)
        rules.append(("settle", 0, 4))
        self.assertEqual((first, keys(3, rules)), ([4, 3], [0]))
        self.assertEqual(keys(3, kept), [4, 3])


if __name__ == "__main__":
    unittest.main()
