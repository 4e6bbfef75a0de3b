"""Points 2, 5, 10, 11, 12 and 13: sets unfolded by rules, and steps walked."""

import itertools
import unittest

from samples import (PlainUnfolding, keeping_book, plain_alike, plain_book, plain_keeps, plain_mixed, sample_book,
                     sample_rules, sample_source, set_keeps)
from splithouse.books import book_of, keeps
from splithouse.sets import turned
from splithouse.unfold import can_use, unfolded, used, walked

TWELVE = [("settle", 0b0000011, 0b0000100), ("deal", 0b0000001, 0b0001010), ("settle", 0b0001000, 0b0010000),
          ("deal", 0b0000010, 0b1100000), ("settle", 0b0010000, 0b0100001), ("deal", 0, 0b0000111),
          ("settle", 0b1000000, 0b1000000), ("deal", 0b0100000, 0b0011000), ("settle", 0b0000100, 0b0001000),
          ("deal", 0b1111111, 0b0000001), ("settle", 0b1100000, 0), ("deal", 0b0000101, 0b1010101)]


class CanUse(unittest.TestCase):
    def test_a_settling_rule(self):
        self.assertIs(can_use(("settle", 0b001, 0b010), 0b110), True)
        self.assertIs(can_use(("settle", 0b001, 0b010), 0b010), True)
        self.assertIs(can_use(("settle", 0b001, 0b011), 0b110), True)
        self.assertIs(can_use(("settle", 0b001, 0b011), 0b100), False)
        self.assertIs(can_use(("settle", 0b001, 0), 0b100), False)

    def test_a_dealing_rule_has_some_and_not_all_of_the_block(self):
        self.assertIs(can_use(("deal", 0b001, 0b010), 0b110), True)
        self.assertIs(can_use(("deal", 0b001, 0b011), 0b110), True)
        self.assertIs(can_use(("deal", 0b001, 0b010), 0b010), False)
        self.assertIs(can_use(("deal", 0b001, 0b110), 0b110), False)
        self.assertIs(can_use(("deal", 0b001, 0b111), 0b110), False)
        self.assertIs(can_use(("deal", 0b001, 0b001), 0b110), False)
        self.assertIs(can_use(("deal", 0b001, 0), 0b110), False)

    def test_a_left_that_has_a_column_of_the_block(self):
        for word in ("settle", "deal"):
            self.assertIs(can_use((word, 0b010, 0b100), 0b110), False)
            self.assertIs(can_use((word, 0b011, 0b100), 0b110), False)
            self.assertIs(can_use((word, 0, 0b100), 0b110), True)
            self.assertIs(can_use((word, 0b1001, 0b100), 0b110), True)

    def test_it_can_be_used_just_where_the_book_of_the_block_breaks_it(self):
        for word, left, right in itertools.product(("settle", "deal"), range(16), range(16)):
            for block in range(1, 16):
                rule = (word, left, right)
                self.assertIs(can_use(rule, block), not set_keeps(block, rule))


class Used(unittest.TestCase):
    def test_a_settling_rule(self):
        self.assertEqual(used(("settle", 1, 0b0010), 1, [0b1110], 0), (0b0011, [0b1100]))
        self.assertEqual(used(("settle", 0, 0b1011), 1, [0b0110, 0b1000], 0), (0b0011, [0b0100, 0b1000]))

    def test_a_settling_rule_that_leaves_nothing_of_the_block(self):
        self.assertEqual(used(("settle", 1, 0b110), 1, [0b110], 0), (0b111, []))
        self.assertEqual(used(("settle", 1, 0b1110), 1, [0b10, 0b100, 0b1000], 1), (0b101, [0b10, 0b1000]))

    def test_a_dealing_rule_puts_those_of_its_right_first(self):
        self.assertEqual(used(("deal", 1, 0b0010), 1, [0b1110], 0), (1, [0b0010, 0b1100]))
        self.assertEqual(used(("deal", 1, 0b1101), 1, [0b1110], 0), (1, [0b1100, 0b0010]))

    def test_the_blocks_around_stay_in_their_places(self):
        blocks = [0b10, 0b1100, 0b110000]
        self.assertEqual(used(("deal", 1, 0b1000), 1, blocks, 1), (1, [0b10, 0b1000, 0b100, 0b110000]))
        self.assertEqual(used(("deal", 1, 0b101000), 1, blocks, 2), (1, [0b10, 0b1100, 0b100000, 0b10000]))
        self.assertEqual(used(("settle", 1, 0b1000), 1, blocks, 1), (0b1001, [0b10, 0b100, 0b110000]))
        self.assertEqual(used(("settle", 1, 0b111110), 1, blocks, 2), (0b110001, [0b10, 0b1100]))

    def test_what_is_handed_in_stays_and_the_told_list_is_new(self):
        for rule in (("settle", 1, 0b0100), ("settle", 1, 0b1100), ("deal", 1, 0b0100)):
            blocks = [0b10, 0b1100]
            told = used(rule, 1, blocks, 1)
            self.assertIs(type(told), tuple)
            self.assertEqual(blocks, [0b10, 0b1100])
            told[1].append(99)
            self.assertEqual(blocks, [0b10, 0b1100])
            self.assertNotIn(99, used(rule, 1, blocks, 1)[1])


class Unfolded(unittest.TestCase):
    def test_no_rules_at_all(self):
        self.assertEqual(unfolded(1, [], 0), (0, [1], []))
        self.assertEqual(unfolded(4, [], 0b0101), (0b0101, [0b1010], []))

    def test_a_set_that_has_all_columns(self):
        for many in range(1, 8):
            for rules in ([], [("settle", 0, 1)], [("deal", 0, 1), ("settle", 1, 1)]):
                self.assertEqual(unfolded(many, rules, 2 ** many - 1), (2 ** many - 1, [], []))

    def test_the_set_without_columns(self):
        rules = [("settle", 1, 4), ("deal", 0, 2)]
        self.assertEqual(unfolded(3, rules, 0), (0, [2, 5], [(1, 7)]))
        self.assertEqual(unfolded(3, [("settle", 0, 2)], 0), (2, [5], [(0, 7)]))

    def test_one_column(self):
        self.assertEqual(unfolded(1, [("settle", 0, 1)], 0), (1, [], [(0, 1)]))
        self.assertEqual(unfolded(1, [("deal", 0, 1)], 0), (0, [1], []))

    def test_a_settling_rule_that_has_all_of_the_block(self):
        self.assertEqual(unfolded(3, [("settle", 1, 6)], 1), (7, [], [(0, 6)]))
        self.assertEqual(unfolded(3, [("settle", 1, 7), ("settle", 2, 4)], 1), (7, [], [(0, 6)]))

    def test_a_dealing_rule_that_has_all_of_the_block_or_none(self):
        rules = [("deal", 1, 6), ("deal", 1, 7), ("deal", 1, 1), ("deal", 1, 0)]
        self.assertEqual(unfolded(3, rules, 1), (1, [6], []))

    def test_a_left_with_a_column_of_the_block(self):
        self.assertEqual(unfolded(4, [("settle", 3, 4), ("deal", 2, 8)], 1), (1, [0b1110], []))

    def test_both_words(self):
        rules = [("settle", 1, 2), ("deal", 2, 4)]
        self.assertEqual(unfolded(4, rules, 1), (3, [4, 8], [(0, 14), (1, 12)]))
        self.assertEqual(unfolded(4, rules, 2), (2, [4, 9], [(1, 13)]))

    def test_a_left_within_another_block(self):
        rules = [("settle", 4, 8), ("deal", 1, 4)]
        self.assertEqual(unfolded(4, rules, 1), (9, [4, 2], [(1, 14), (0, 10)]))

    def test_rules_are_taken_from_the_first_again(self):
        rules = [("settle", 4, 8), ("settle", 2, 4), ("settle", 1, 2), ("settle", 8, 16)]
        wanted = [(2, 0b11110), (1, 0b11100), (0, 0b11000), (3, 0b10000)]
        self.assertEqual(unfolded(5, rules, 1), (31, [], wanted))
        rules = [("settle", 1, 2), ("settle", 1, 4), ("settle", 2, 8)]
        self.assertEqual(unfolded(4, rules, 1)[2], [(0, 14), (1, 12), (2, 8)])
        self.assertEqual(unfolded(4, rules[::-1], 1)[2], [(1, 14), (2, 10), (0, 8)])

    def test_the_first_block_is_taken_first(self):
        rules = [("deal", 0, 0b0011), ("deal", 0, 0b0101)]
        self.assertEqual(unfolded(4, rules, 0), (0, [1, 2, 4, 8], [(0, 15), (1, 3), (1, 12)]))
        rules = [("deal", 0, 0b1100), ("deal", 0, 0b0101)]
        self.assertEqual(unfolded(4, rules, 0), (0, [4, 8, 1, 2], [(0, 15), (1, 12), (1, 3)]))
        rules = [("deal", 0, 0b1100), ("settle", 0, 0b0101)]
        self.assertEqual(unfolded(4, rules, 0), (5, [8, 2], [(0, 15), (1, 12), (1, 3)]))

    def test_an_earlier_rule_goes_ahead_of_an_earlier_block(self):
        rules = [("settle", 0, 0b1000), ("deal", 0, 0b0011), ("deal", 0, 0b0001), ("settle", 1, 0b0100)]
        told = unfolded(4, rules, 0)
        self.assertEqual(told, (0b1100, [1, 2], [(0, 15), (1, 7), (2, 3), (3, 4)]))
        rules = [("deal", 0, 0b0011), ("deal", 4, 0b0001), ("settle", 1, 0b1000)]
        told = unfolded(4, rules, 0)
        self.assertEqual(told, (0b1000, [1, 2, 4], [(0, 15), (1, 3), (2, 12)]))
        rules = [("deal", 0, 0b0011), ("settle", 1, 0b1000), ("deal", 4, 0b0001)]
        told = unfolded(4, rules, 0)
        self.assertEqual(told, (0b1000, [1, 2, 4], [(0, 15), (1, 12), (2, 3)]))

    def test_the_order_of_rules_changes_that_of_blocks(self):
        one, other = ("deal", 0, 1), ("deal", 0, 2)
        self.assertEqual(unfolded(3, [one, other], 0), (0, [1, 2, 4], [(0, 7), (1, 6)]))
        self.assertEqual(unfolded(3, [other, one], 0), (0, [2, 1, 4], [(0, 7), (1, 5)]))

    def test_the_same_rule_twice_is_used_by_its_first_number(self):
        self.assertEqual(unfolded(2, [("settle", 1, 2)] * 2, 1), (3, [], [(0, 2)]))

    def test_seven_columns_fall_apart_into_single_ones(self):
        rules = [("deal", 0, 2 ** k) for k in range(7)]
        told = unfolded(7, rules, 0)
        self.assertEqual(told[:2], (0, [1, 2, 4, 8, 16, 32, 64]))
        self.assertEqual(told[2], [(k, 128 - 2 ** k) for k in range(6)])

    def test_as_the_words_of_the_document_say(self):
        source = sample_source(11)
        for many in range(1, 8):
            for turn in range(150):
                self.check(many, sample_rules(source, many, 12), source.randrange(2 ** many))

    def test_twelve_rules_and_sixty(self):
        source = sample_source(12)
        for some in range(128):
            self.check(7, TWELVE, some)
            sixty = [rule for turn in range(60) for rule in sample_rules(source, 7, 4)]
            self.check(7, (sixty + TWELVE * 5)[:60], some)
            self.check(7, [("deal", 127, 1)] * 59 + [("settle", some, 127)], some)

    def check(self, many, rules, some):
        told = unfolded(many, rules, some)
        self.assertEqual(told, PlainUnfolding(many, rules, some).run().told())
        fixed, blocks, steps = told
        self.assertEqual((type(told), type(blocks), type(steps)), (tuple, list, list))
        self.assertEqual({type(number) for number in [fixed] + blocks + [n for step in steps for n in step]}, {int})
        self.assertEqual({type(step) for step in steps} | {tuple}, {tuple})
        self.assertEqual(fixed + sum(blocks), 2 ** many - 1)
        self.assertLessEqual(len(steps), 2 * many)

    def test_fixed_columns_and_blocks_do_not_hang_on_the_order(self):
        source = sample_source(13)
        for turn in range(300):
            rules, some = sample_rules(source, 6, 8), source.randrange(64)
            fixed, blocks, steps = unfolded(6, rules, some)
            source.shuffle(rules)
            told = unfolded(6, rules, some)
            self.assertEqual((told[0], sorted(told[1])), (fixed, sorted(blocks)))

    def test_columns_put_in_another_order(self):
        source = sample_source(18)
        for turn in range(200):
            many = source.randrange(1, 8)
            rules, some = sample_rules(source, many, 8), source.randrange(2 ** many)
            order = source.sample(range(many), many)
            other = [(word, turned(left, order), turned(right, order)) for word, left, right in rules]
            fixed, blocks, steps = unfolded(many, rules, some)
            wanted = (turned(fixed, order), [turned(block, order) for block in blocks],
                      [(k, turned(block, order)) for k, block in steps])
            self.assertEqual(unfolded(many, other, turned(some, order)), wanted)

    def test_what_is_handed_in_stays_and_may_be_changed_later(self):
        rules = [("settle", 1, 2), ("deal", 2, 4)]
        wanted = (3, [4, 8], [(0, 14), (1, 12)])
        self.assertEqual(unfolded(4, rules, 1), wanted)
        self.assertEqual(rules, [("settle", 1, 2), ("deal", 2, 4)])
        rules.pop()
        self.assertEqual(unfolded(4, rules, 1), (3, [12], [(0, 14)]))
        self.assertEqual(unfolded(4, [("settle", 1, 2), ("deal", 2, 4)], 1), wanted)

    def test_told_lists_are_new(self):
        rules = [("settle", 1, 2), ("deal", 2, 4)]
        one, other = unfolded(4, rules, 1), unfolded(4, rules, 1)
        one[1].append(99)
        one[2].clear()
        self.assertEqual(other, (3, [4, 8], [(0, 14), (1, 12)]))
        self.assertEqual(unfolded(4, rules, 1), other)
        none = unfolded(2, [], 3)
        none[1].append(7)
        none[2].append((0, 0))
        self.assertEqual(unfolded(2, [], 3), (3, [], []))


class KeptByBooks(unittest.TestCase):
    def test_the_book_of_each_block_keeps_all_rules(self):
        source = sample_source(14)
        for many in range(1, 8):
            for turn in range(60):
                rules, some = sample_rules(source, many, 12), source.randrange(2 ** many)
                for block in unfolded(many, rules, some)[1]:
                    self.assertIs(keeps(book_of(many, block), rules), True)
                    self.assertTrue(plain_keeps(plain_book(many, block), rules))

    def test_of_sixty_rules_too(self):
        rules = (TWELVE[::2] + [("deal", left, left // 2) for left in range(1, 128)])[:60]
        for some in range(128):
            for block in unfolded(7, rules, some)[1]:
                self.assertIs(keeps(book_of(7, block), rules), True)

    def test_a_written_book(self):
        rules = [("settle", 1, 2), ("deal", 1, 4)]
        book = [(0, 5, 1, 1), (0, 5, 1, 2), (0, 5, 2, 1), (0, 5, 2, 2), (1, 5, 3, 3)]
        self.assertIs(keeps(book, rules), True)
        self.check(4, rules, 1, book)

    def test_rows_of_books_that_keep_the_rules(self):
        source = sample_source(15)
        for many in range(1, 6):
            for turn in range(60):
                rules = sample_rules(source, many, 4)
                book = keeping_book(sample_book(source, many, 4, (0, 1, 2)), rules)
                self.check(many, rules, source.randrange(2 ** many), book)
                self.check(many, rules, 0, book)

    def check(self, many, rules, some, book):
        fixed, blocks, steps = unfolded(many, rules, some)
        for one, other in itertools.product(book, book):
            if plain_alike(one, other, some):
                self.assertTrue(plain_alike(one, other, fixed))
                for block in blocks:
                    self.assertIn(plain_mixed(other, one, block), book)


class Walked(unittest.TestCase):
    RULES = [("settle", 4, 8), ("deal", 1, 4), ("settle", 1, 2)]

    def test_no_steps_at_all(self):
        self.assertEqual(walked(4, self.RULES, 1, []), (1, [14]))
        self.assertEqual(walked(4, self.RULES, 0, []), (0, [15]))
        self.assertEqual(walked(4, self.RULES, 15, []), (15, []))
        self.assertEqual(walked(4, [], 3, []), (3, [12]))

    def test_one_by_one(self):
        steps = [(1, 14), (0, 10), (2, 2)]
        wanted = [(1, [14]), (1, [4, 10]), (9, [4, 2]), (11, [4])]
        for many in range(4):
            self.assertEqual(walked(4, self.RULES, 1, steps[:many]), wanted[many])

    def test_in_another_order_than_unfolded_tells(self):
        self.assertEqual(walked(4, self.RULES, 1, [(2, 14), (1, 12), (0, 8)]), (11, [4]))
        self.assertEqual(walked(4, self.RULES, 1, [(1, 14), (2, 10), (0, 8)]), (11, [4]))
        deals = [("deal", 0, 1), ("deal", 0, 2)]
        self.assertEqual(walked(3, deals, 0, [(1, 7), (0, 5)]), (0, [2, 1, 4]))

    def test_a_number_of_no_rule(self):
        for number in (-1, -2, -3, -4, 3, 4, 99, -99):
            self.assertIsNone(walked(4, self.RULES, 1, [(number, 14)]))
            self.assertIsNone(walked(4, self.RULES, 1, [(1, 14), (number, 10)]))
        self.assertIsNone(walked(4, [], 1, [(0, 14)]))
        self.assertIsNone(walked(4, [], 1, [(-1, 14)]))

    def test_a_block_that_is_not_there(self):
        for block in set(range(-20, 20)) - {14}:
            self.assertIsNone(walked(4, self.RULES, 1, [(1, block)]))
        self.assertIsNone(walked(4, self.RULES, 15, [(1, 0)]))
        self.assertIsNone(walked(4, self.RULES, 1, [(1, 14), (0, 14)]))
        self.assertIsNone(walked(4, self.RULES, 1, [(0, 10), (1, 14)]))
        self.assertIsNone(walked(4, self.RULES, 1, [(2, 14), (1, 14)]))

    def test_a_rule_that_can_not_be_used_there(self):
        self.assertIsNone(walked(4, self.RULES, 1, [(0, 14)]))
        self.assertIsNone(walked(4, self.RULES, 1, [(1, 14), (0, 4)]))
        self.assertIsNone(walked(4, self.RULES, 1, [(1, 14), (2, 4)]))
        self.assertIsNone(walked(4, self.RULES, 1, [(1, 14), (1, 4)]))
        self.assertIsNone(walked(3, [("deal", 1, 6)], 1, [(0, 6)]))
        self.assertIsNone(walked(3, [("deal", 1, 1)], 1, [(0, 6)]))
        self.assertIsNone(walked(3, [("settle", 1, 1)], 1, [(0, 6)]))

    def test_a_step_twice(self):
        self.assertIsNone(walked(4, self.RULES, 1, [(1, 14), (1, 14)]))
        self.assertIsNone(walked(4, self.RULES, 1, [(2, 14), (2, 14)]))
        self.assertIsNone(walked(4, self.RULES, 1, [(2, 14), (1, 12), (2, 14)]))

    def test_what_unfolded_tells_is_walked_to_its_end(self):
        source = sample_source(16)
        for many in range(1, 8):
            for turn in range(60):
                rules, some = sample_rules(source, many, 12), source.randrange(2 ** many)
                fixed, blocks, steps = unfolded(many, rules, some)
                self.assertEqual(walked(many, rules, some, steps), (fixed, blocks))
                other = PlainUnfolding(many, rules, some).run(source.choice)
                self.assertEqual(walked(many, rules, some, other.steps), other.state())
                self.assertEqual(set(other.state()[1]), set(blocks))
                for left_out in range(len(steps)):
                    self.check(many, rules, some, steps[:left_out] + steps[left_out + 1:])

    def test_steps_by_chance(self):
        source = sample_source(17)
        for turn in range(1500):
            rules = sample_rules(source, 3, 3)
            steps = [(source.randrange(-1, 4), source.randrange(8)) for step in range(source.randrange(3))]
            self.check(3, rules, source.randrange(8), steps)

    def check(self, many, rules, some, steps):
        plain = PlainUnfolding(many, rules, some)
        wanted = plain.state()
        for k, block in steps:
            uses = [use for use in plain.uses() if use[0] == k and plain.state()[1][use[1]] == block]
            if not uses:
                wanted = None
                break
            plain.use(*uses[0])
            wanted = plain.state()
        self.assertEqual(walked(many, rules, some, steps), wanted)

    def test_sixty_rules(self):
        rules = [("deal", 127, 1)] * 57 + self.RULES
        self.assertEqual(walked(4, rules, 1, [(58, 14), (57, 10), (59, 2)]), (11, [4]))
        self.assertIsNone(walked(4, rules, 1, [(60, 14)]))
        self.assertIsNone(walked(4, rules, 1, [(-2, 14)]))

    def test_what_is_handed_in_stays_and_told_lists_are_new(self):
        rules, steps = list(self.RULES), [(1, 14), (0, 10)]
        told = walked(4, rules, 1, steps)
        self.assertIs(type(told), tuple)
        self.assertEqual((rules, steps), (self.RULES, [(1, 14), (0, 10)]))
        told[1].append(99)
        self.assertEqual(walked(4, rules, 1, steps), (9, [4, 2]))
        start = walked(4, rules, 1, [])
        start[1].clear()
        self.assertEqual(walked(4, rules, 1, []), (1, [14]))
        steps.append((2, 2))
        self.assertEqual(walked(4, rules, 1, steps), (11, [4]))
        rules.clear()
        self.assertIsNone(walked(4, rules, 1, steps))
        self.assertEqual(walked(4, self.RULES, 1, [(1, 14), (0, 10)]), (9, [4, 2]))


if __name__ == "__main__":
    unittest.main()
