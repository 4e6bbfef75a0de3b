"""Points 2, 14 and 15: what follows from rules, and papers."""

import itertools
import unittest

from samples import (all_books, keeping_book, keeping_sets, plain_book, plain_follows, plain_keeps, sample_book,
                     sample_rule, sample_rules, sample_source, set_keeps)
from splithouse.books import book_of, breach, keeps
from splithouse.follows import follows, is_right, settled
from splithouse.unfold import unfolded, walked

WORDS = ("settle", "deal")


def all_rules(many):
    return list(itertools.product(WORDS, range(2 ** many), range(2 ** many)))


class Settled(unittest.TestCase):
    def test_written_ones(self):
        rules = [("settle", 1, 2), ("settle", 2, 4), ("deal", 4, 8)]
        self.assertEqual(settled(4, rules, 1), 7)
        self.assertEqual(settled(4, rules, 2), 6)
        self.assertEqual(settled(4, rules, 8), 8)
        self.assertEqual(settled(4, rules, 0), 0)
        self.assertEqual(settled(4, rules, 15), 15)
        self.assertEqual(settled(4, [], 5), 5)
        self.assertEqual(settled(4, [("settle", 0, 9)], 4), 13)

    def test_a_dealing_rule_may_let_a_settling_one_fix_more(self):
        self.assertEqual(settled(4, [("settle", 4, 8)], 1), 1)
        self.assertEqual(settled(4, [("settle", 4, 8), ("deal", 1, 4)], 1), 9)

    def test_many(self):
        source = sample_source(21)
        for many in range(1, 8):
            for turn in range(40):
                rules, some = sample_rules(source, many, 12), source.randrange(2 ** many)
                told = settled(many, rules, some)
                self.assertIs(type(told), int)
                wanted = [k for k in range(many) if plain_follows(many, rules, ("settle", some, 2 ** k))]
                self.assertEqual(told, sum(2 ** k for k in wanted))

    def test_sixty_rules(self):
        rules = [("deal", 127, 1)] * 53 + [("settle", 2 ** k, 2 ** ((k + 1) % 7)) for k in range(7)]
        self.assertEqual(settled(7, rules, 0), 0)
        for some in range(1, 128):
            self.assertEqual(settled(7, rules, some), 127)


class Follows(unittest.TestCase):
    def test_a_settling_rule_that_follows(self):
        rules = [("settle", 1, 2), ("settle", 2, 4)]
        self.assertEqual(follows(4, rules, ("settle", 1, 4)), ("yes", [(0, 14), (1, 12)]))
        self.assertEqual(follows(4, rules, ("settle", 1, 7)), ("yes", [(0, 14), (1, 12)]))
        self.assertEqual(follows(4, rules, ("settle", 9, 2)), ("yes", [(0, 6), (1, 4)]))

    def test_all_steps_of_unfolding_are_told_whether_needed_or_not(self):
        rules = [("settle", 1, 2), ("settle", 1, 4)]
        for right in (0, 1, 2, 4, 7):
            self.assertEqual(follows(4, rules, ("settle", 1, right)), ("yes", [(0, 14), (1, 12)]))
        self.assertEqual(follows(4, rules, ("deal", 1, 8)), ("yes", [(0, 14), (1, 12)]))

    def test_a_settling_rule_that_does_not_follow(self):
        rules = [("settle", 1, 2), ("deal", 1, 4)]
        self.assertEqual(follows(4, rules, ("settle", 1, 8)), ("no", 8))
        self.assertEqual(follows(4, rules, ("settle", 1, 4)), ("no", 4))
        self.assertEqual(follows(4, rules, ("settle", 1, 2)), ("yes", [(0, 14), (1, 12)]))
        self.assertEqual(follows(4, rules, ("settle", 2, 1)), ("no", 13))

    def test_the_first_block_that_breaks_the_rule_is_told(self):
        rules = [("deal", 0, 8), ("deal", 0, 1), ("deal", 0, 4)]
        self.assertEqual(unfolded(4, rules, 0)[1], [8, 1, 4, 2])
        self.assertEqual(follows(4, rules, ("settle", 0, 15)), ("no", 8))
        self.assertEqual(follows(4, rules, ("settle", 0, 7)), ("no", 1))
        self.assertEqual(follows(4, rules, ("settle", 0, 6)), ("no", 4))
        rules = [("deal", 0, 0b1100), ("settle", 1, 0)]
        self.assertEqual(follows(4, rules, ("deal", 0, 0b0101)), ("no", 0b1100))
        self.assertEqual(follows(4, rules, ("deal", 0, 0b0001)), ("no", 0b0011))
        self.assertEqual(follows(4, rules, ("deal", 0, 0b1101)), ("no", 0b0011))

    def test_a_dealing_rule_that_follows(self):
        rules = [("deal", 1, 2), ("deal", 1, 4)]
        steps = [(0, 0b11110), (1, 0b11100)]
        for right in (0, 1, 2, 4, 6, 24, 26, 28, 30, 31, 25):
            self.assertEqual(follows(5, rules, ("deal", 1, right)), ("yes", steps))
        self.assertEqual(follows(5, rules, ("deal", 1, 8)), ("no", 24))
        self.assertEqual(follows(5, rules, ("deal", 1, 22)), ("no", 24))

    def test_a_settling_rule_is_a_dealing_one_too(self):
        self.assertEqual(follows(3, [("settle", 1, 2)], ("deal", 1, 2)), ("yes", [(0, 6)]))
        self.assertEqual(follows(3, [("deal", 1, 2)], ("settle", 1, 2)), ("no", 2))

    def test_no_rules_at_all(self):
        self.assertEqual(follows(3, [], ("settle", 3, 1)), ("yes", []))
        self.assertEqual(follows(3, [], ("settle", 1, 3)), ("no", 6))
        self.assertEqual(follows(3, [], ("deal", 1, 2)), ("no", 6))
        self.assertEqual(follows(3, [], ("deal", 1, 6)), ("yes", []))
        self.assertEqual(follows(1, [], ("settle", 0, 1)), ("no", 1))
        self.assertEqual(follows(1, [], ("deal", 0, 1)), ("yes", []))

    def test_a_left_of_all_columns_and_of_none(self):
        for word in WORDS:
            self.assertEqual(follows(3, [("settle", 0, 7)], (word, 7, 5)), ("yes", []))
            self.assertEqual(follows(3, [("settle", 0, 7)], (word, 0, 5)), ("yes", [(0, 7)]))
            self.assertEqual(follows(3, [("settle", 1, 7)], (word, 0, 5)), ("no", 7))

    def test_each_of_the_rules_follows_itself(self):
        source = sample_source(22)
        for many in range(1, 8):
            rules = [sample_rule(source, many) for turn in range(12)]
            for rule in rules:
                self.assertEqual(follows(many, rules, rule)[0], "yes")

    def test_by_all_books_of_three_columns(self):
        # A book of a set is one of these, so what each of them keeps follows.
        books = all_books(3)
        kept = {rule: {k for k, book in enumerate(books) if plain_keeps(book, [rule])} for rule in all_rules(3)}
        source = sample_source(23)
        for turn in range(60):
            rules = sample_rules(source, 3, 3)
            keeping = set(range(256)).intersection(*[kept[rule] for rule in rules])
            for rule in kept:
                self.assertEqual(follows(3, rules, rule)[0] == "yes", keeping <= kept[rule], (rules, rule))

    def test_books_that_keep_the_rules_keep_what_follows(self):
        source = sample_source(24)
        for many in range(1, 6):
            for turn in range(30):
                rules = sample_rules(source, many, 4)
                book = keeping_book(sample_book(source, many, 4, (0, 1, 2)), rules)
                for again in range(20):
                    rule = sample_rule(source, many)
                    if follows(many, rules, rule)[0] == "yes":
                        self.assertIsNone(breach(book, rule))

    def test_many(self):
        source = sample_source(25)
        for many in range(1, 8):
            for turn in range(60):
                self.check(many, sample_rules(source, many, 12), sample_rule(source, many))

    def test_sixty_rules(self):
        source = sample_source(26)
        rules = [("deal", 64 + left, left) for left in range(58)] + [("settle", 3, 4), ("deal", 4, 24)]
        for turn in range(60):
            self.check(7, rules, sample_rule(source, 7))
        self.assertEqual(follows(7, [("settle", 64, 64)] * 59 + [("settle", 1, 2)], ("settle", 1, 2)),
                         ("yes", [(59, 126)]))

    def check(self, many, rules, rule):
        fixed, blocks, steps = unfolded(many, rules, rule[1])
        told = follows(many, rules, rule)
        self.assertIs(type(told), tuple)
        if plain_follows(many, rules, rule):
            self.assertEqual(told, ("yes", steps))
        else:
            breaking = [block for block in blocks if not plain_keeps(plain_book(many, block), [rule])]
            self.assertEqual(told, ("no", breaking[0]))
            self.assertIs(type(told[1]), int)
            self.assertIs(keeps(book_of(many, told[1]), rules), True)
            self.assertIs(keeps(book_of(many, told[1]), [rule]), False)
        self.assertIs(is_right(many, rules, rule, told), True)

    def test_what_is_handed_in_stays_and_the_told_list_is_new(self):
        rules = [("settle", 1, 2), ("deal", 2, 4)]
        rule = ("deal", 1, 4)
        told = follows(4, rules, rule)
        self.assertEqual(rules, [("settle", 1, 2), ("deal", 2, 4)])
        told[1].append((9, 9))
        self.assertEqual(follows(4, rules, rule), ("yes", [(0, 14), (1, 12)]))
        rules.pop()
        self.assertEqual(follows(4, rules, rule), ("no", 12))
        self.assertEqual(settled(4, rules, 1), 3)
        rules.clear()
        self.assertEqual(settled(4, rules, 1), 1)
        self.assertEqual(follows(4, [("settle", 1, 2), ("deal", 2, 4)], rule), ("yes", [(0, 14), (1, 12)]))
        empty = follows(4, [], ("settle", 1, 1))
        empty[1].append((0, 0))
        self.assertEqual(follows(4, [], ("settle", 1, 1)), ("yes", []))


class RightPapers(unittest.TestCase):
    RULES = [("settle", 1, 2), ("settle", 2, 4), ("deal", 4, 8)]

    def right(self, rule, paper, many=5, rules=None):
        told = is_right(many, self.RULES if rules is None else rules, rule, paper)
        self.assertIs(type(told), bool)
        return told

    def test_steps_that_lead_there(self):
        self.assertTrue(self.right(("settle", 1, 4), ("yes", [(0, 30), (1, 28)])))
        self.assertTrue(self.right(("deal", 1, 8), ("yes", [(0, 30), (1, 28), (2, 24)])))
        self.assertTrue(self.right(("deal", 1, 16), ("yes", [(0, 30), (1, 28), (2, 24)])))

    def test_more_or_fewer_steps_than_unfolded_tells(self):
        self.assertTrue(self.right(("settle", 1, 2), ("yes", [(0, 30)])))
        self.assertTrue(self.right(("settle", 1, 2), ("yes", [(0, 30), (1, 28)])))
        self.assertTrue(self.right(("deal", 4, 8), ("yes", [(2, 27)])))

    def test_steps_of_another_order(self):
        rules = [("settle", 1, 2), ("settle", 1, 4), ("deal", 1, 8)]
        for rule in (("settle", 1, 6), ("deal", 1, 16)):
            self.assertTrue(self.right(rule, ("yes", [(0, 30), (1, 28), (2, 24)]), rules=rules))
            self.assertTrue(self.right(rule, ("yes", [(1, 30), (2, 26), (0, 18)]), rules=rules))
            self.assertTrue(self.right(rule, ("yes", [(2, 30), (1, 22), (0, 18)]), rules=rules))
            self.assertFalse(self.right(rule, ("yes", [(2, 30), (0, 22), (1, 22)]), rules=rules))

    def test_steps_that_stop_short(self):
        self.assertFalse(self.right(("settle", 1, 4), ("yes", [])))
        self.assertFalse(self.right(("settle", 1, 4), ("yes", [(0, 30)])))
        self.assertFalse(self.right(("settle", 1, 6), ("yes", [(0, 30)])))
        self.assertFalse(self.right(("deal", 1, 8), ("yes", [(0, 30), (1, 28)])))
        self.assertFalse(self.right(("settle", 1, 8), ("yes", [(0, 30), (1, 28), (2, 24)])))

    def test_steps_that_are_none(self):
        for steps in ([(1, 30)], [(0, 28)], [(-3, 30)], [(3, 30)], [(0, 30), (0, 30)], [(0, 0)], [(2, 30)]):
            self.assertFalse(self.right(("settle", 1, 2), ("yes", steps)))
            self.assertFalse(self.right(("settle", 1, 1), ("yes", steps[:1] + [(0, 31)])))
        self.assertFalse(self.right(("settle", 1, 2), ("yes", [(0, 30), (1, 28), (2, 24), (0, 8)])))

    def test_no_steps(self):
        for word in WORDS:
            self.assertTrue(self.right((word, 3, 2), ("yes", [])))
            self.assertTrue(self.right((word, 3, 0), ("yes", [])))
            self.assertTrue(self.right((word, 31, 31), ("yes", [])))
            self.assertFalse(self.right((word, 3, 4), ("yes", [])))
        self.assertTrue(self.right(("deal", 3, 28), ("yes", [])))
        self.assertTrue(self.right(("deal", 3, 28), ("yes", []), rules=[]))

    def test_a_block_whose_book_breaks_the_rule(self):
        self.assertTrue(self.right(("settle", 1, 8), ("no", 8)))
        self.assertFalse(self.right(("settle", 1, 8), ("no", 16)))
        self.assertTrue(self.right(("settle", 1, 24), ("no", 16)))
        self.assertTrue(self.right(("deal", 2, 1), ("no", 17)))
        self.assertTrue(self.right(("settle", 2, 1), ("no", 1)))

    def test_a_set_that_is_no_block(self):
        self.assertEqual(unfolded(5, self.RULES, 0), (0, [31], []))
        for some in range(32):
            wanted = some in keeping_sets(5, self.RULES) and some & 8 != 0
            self.assertIs(self.right(("settle", 0, 8), ("no", some)), wanted)
        self.assertTrue(self.right(("settle", 0, 8), ("no", 8)))
        self.assertFalse(self.right(("settle", 0, 8), ("no", 12 + 16)))

    def test_a_book_that_breaks_one_of_the_rules(self):
        self.assertFalse(self.right(("settle", 0, 2), ("no", 2)))
        self.assertFalse(self.right(("settle", 0, 8), ("no", 24)))
        self.assertTrue(self.right(("settle", 0, 8), ("no", 24), rules=self.RULES[:2]))

    def test_the_set_without_columns_breaks_nothing(self):
        for word, left, right in itertools.product(WORDS, range(8), range(8)):
            self.assertFalse(self.right((word, left, right), ("no", 0), 3, [("settle", 1, 2)]))
            self.assertFalse(self.right((word, left, right), ("no", 0), 3, []))

    def test_the_set_of_all_columns(self):
        self.assertTrue(self.right(("settle", 0, 1), ("no", 31)))
        self.assertTrue(self.right(("deal", 0, 1), ("no", 31)))
        self.assertFalse(self.right(("deal", 0, 31), ("no", 31)))
        self.assertFalse(self.right(("settle", 1, 2), ("no", 31)))
        self.assertFalse(self.right(("settle", 0, 1), ("no", 31), rules=[("settle", 0, 2)]))
        self.assertTrue(self.right(("settle", 0, 1), ("no", 1), rules=[("settle", 0, 2)]))

    def test_a_paper_for_what_follows_is_never_a_no_and_the_other_way_round(self):
        source = sample_source(27)
        for turn in range(150):
            many = source.randrange(1, 6)
            rules, rule = sample_rules(source, many, 6), sample_rule(source, many)
            steps = unfolded(many, rules, rule[1])[2]
            self.assertIs(self.right(rule, ("yes", steps), many, rules), plain_follows(many, rules, rule))
            for some in range(2 ** many):
                wanted = not set_keeps(some, rule) and some in keeping_sets(many, rules)
                self.assertIs(self.right(rule, ("no", some), many, rules), wanted)

    def test_steps_are_right_just_where_they_are_walked_to_what_is_asked(self):
        source = sample_source(28)
        for turn in range(500):
            rules, rule = sample_rules(source, 4, 5), sample_rule(source, 4)
            steps = unfolded(4, rules, rule[1])[2]
            for many in range(len(steps) + 1):
                fixed, blocks = walked(4, rules, rule[1], steps[:many])
                if rule[0] == "settle":
                    wanted = rule[2] | fixed == fixed
                else:
                    wanted = all(rule[2] & block in (0, block) for block in blocks)
                self.assertIs(self.right(rule, ("yes", steps[:many]), 4, rules), wanted)

    def test_sixty_rules(self):
        rules = [("deal", 127, 1)] * 57 + self.RULES
        self.assertTrue(self.right(("settle", 1, 4), ("yes", [(57, 30), (58, 28)]), rules=rules))
        self.assertFalse(self.right(("settle", 1, 4), ("yes", [(57, 30), (60, 28)]), rules=rules))
        self.assertFalse(self.right(("settle", 1, 4), ("yes", [(-3, 30), (-2, 28)]), rules=rules))
        self.assertTrue(self.right(("settle", 1, 8), ("no", 8), rules=rules))
        self.assertFalse(self.right(("settle", 0, 8), ("no", 24), rules=rules))

    def test_what_is_handed_in_stays_and_may_be_changed_later(self):
        rules, steps = list(self.RULES), [(0, 30), (1, 28)]
        paper = ("yes", steps)
        self.assertTrue(self.right(("settle", 1, 4), paper, rules=rules))
        self.assertEqual((rules, paper), (self.RULES, ("yes", [(0, 30), (1, 28)])))
        steps.pop()
        self.assertFalse(self.right(("settle", 1, 4), paper, rules=rules))
        self.assertTrue(self.right(("settle", 1, 8), ("no", 8), rules=rules))
        rules.append(("settle", 1, 8))
        self.assertFalse(self.right(("settle", 1, 8), ("no", 8), rules=rules))


if __name__ == "__main__":
    unittest.main()
