"""Points 2, 3, 22, 23, 24 and 25: what a part tells twice, the tree of its cuts, and books grown up the tree."""

import copy
import itertools
import unittest

from samples import (BIG, PlainUnfolding, all_books, columns, keeping_book, narrow_rules, plain_alike, plain_keeps,
                     plain_mixed, plain_seen, plain_sets_within, plain_together, sample_book, sample_order,
                     sample_rules, sample_source, turned_rules)
from splithouse.books import keeps, seen_on
from splithouse.cuts import cut_in_two
from splithouse.errors import SplitError, TooMany
from splithouse.forms import cut_tree, grown, leaves, twice
from splithouse.sets import turned

WORDS = ("settle", "deal")

CHAIN = [("settle", 1, 2), ("settle", 2, 4)]

# Seven columns: a cut by a settling rule, and cuts by dealing rules in both parts of it.
SEVEN = [("settle", 1, 14), ("deal", 2, 4), ("deal", 1, 16), ("deal", 1, 32)]

SEVEN_TREE = ("cut", 127, 1, 14,
              ("cut", 15, 2, 4, ("whole", 6), ("whole", 11)),
              ("cut", 113, 1, 16, ("whole", 17), ("cut", 97, 1, 32, ("whole", 33), ("whole", 65))))


def number(some):
    return sum(2 ** k for k in some)


def plain_told(many, rules, part, some):
    """Point 23: the columns that the set tells twice in the part, or None."""
    now = PlainUnfolding(many, rules, some).run()
    rest = columns(part)
    if rest <= now.fixed:
        return None
    if (rest & now.fixed) - columns(some):
        return number((rest & now.fixed) - columns(some))
    pieces = [block & rest for block in now.blocks if block & rest]
    return number(pieces[0]) if len(pieces) > 1 else None


def plain_twice(many, rules, part):
    told = [(some, plain_told(many, rules, part, some)) for some in plain_sets_within(part)]
    return next((pair for pair in told if pair[1] is not None), None)


def plain_tree(many, rules, part):
    """Point 24."""
    found = plain_twice(many, rules, part)
    if found is None:
        return ("whole", part)
    one, other = columns(found[0]) | columns(found[1]), columns(part) - columns(found[1])
    return ("cut", part) + found + (plain_tree(many, rules, number(one)), plain_tree(many, rules, number(other)))


def subtrees(tree):
    """The tree and all trees in it."""
    if tree[0] == "whole":
        return [tree]
    return [tree] + subtrees(tree[4]) + subtrees(tree[5])


def plain_leaves(tree):
    return [inner[1] for inner in subtrees(tree) if inner[0] == "whole"]


def plain_grown(book, tree):
    """Point 25."""
    if tree[0] == "whole":
        return plain_seen(book, tree[1])
    return plain_together(plain_grown(book, tree[4]), tree[4][1], plain_grown(book, tree[5]), tree[5][1])


def bit_rules(many):
    """Five dealing rules that deal up to 32 columns out, each as a block of its own."""
    return [("deal", 0, sum(2 ** k for k in range(many) if k & 2 ** bit)) for bit in range(5)]


class Twice(unittest.TestCase):
    def test_no_rules(self):
        for many in range(1, 8):
            for part in range(2 ** many):
                self.assertIsNone(twice(many, [], part))

    def test_one_column_and_none(self):
        source = sample_source(81)
        for many in range(1, 8):
            for turn in range(10):
                rules = sample_rules(source, many, 12)
                self.assertIsNone(twice(many, rules, 0))
                for k in range(many):
                    self.assertIsNone(twice(many, rules, 2 ** k))

    def test_a_settling_rule(self):
        self.assertEqual(twice(3, [("settle", 1, 2)], 7), (1, 2))
        self.assertEqual(twice(3, [("settle", 4, 1)], 7), (4, 1))
        self.assertEqual(twice(4, [("settle", 6, 1)], 15), (6, 1))
        self.assertEqual(twice(4, [("settle", 1, 7)], 15), (1, 6))

    def test_a_set_that_settles_the_whole_part_does_not_tell_twice(self):
        self.assertIsNone(twice(3, [("settle", 1, 6)], 7))
        self.assertIsNone(twice(4, [("settle", 1, 6)], 7))
        self.assertEqual(twice(4, [("settle", 1, 6)], 15), (1, 6))
        self.assertIsNone(twice(2, [("settle", 1, 2), ("settle", 2, 1)], 3))
        self.assertIsNone(twice(2, [("settle", 0, 3)], 3))

    def test_a_dealing_rule(self):
        self.assertEqual(twice(3, [("deal", 1, 2)], 7), (1, 2))
        self.assertEqual(twice(3, [("deal", 1, 4)], 7), (1, 4))
        self.assertEqual(twice(4, [("deal", 1, 12)], 15), (1, 12))
        self.assertEqual(twice(4, [("deal", 1, 2)], 15), (1, 2))

    def test_a_dealing_rule_beside_a_whole_that_is_one_block(self):
        self.assertIsNone(twice(3, [("deal", 1, 2)], 3))
        self.assertIsNone(twice(3, [("deal", 1, 2)], 5))
        self.assertIsNone(twice(3, [("deal", 1, 6)], 7))
        self.assertIsNone(twice(3, [("deal", 1, 1)], 7))
        self.assertIsNone(twice(3, [("deal", 1, 2)], 6))

    def test_the_set_without_columns(self):
        self.assertEqual(twice(2, [("settle", 0, 1)], 3), (0, 1))
        self.assertEqual(twice(2, [("settle", 0, 2)], 3), (0, 2))
        self.assertEqual(twice(2, [("deal", 0, 1)], 3), (0, 1))
        self.assertEqual(twice(2, [("deal", 0, 2)], 3), (0, 2))
        self.assertEqual(twice(3, [("settle", 1, 2), ("settle", 0, 4)], 7), (0, 4))
        self.assertEqual(twice(3, [("settle", 4, 2), ("deal", 0, 6)], 7), (0, 6))
        self.assertEqual(twice(3, [("settle", 1, 2), ("deal", 0, 6)], 7), (0, 2))

    def test_the_part_itself_fixes_all_of_it(self):
        # Beyond the part it fixes a column and leaves several blocks, of which none has a column of the part.
        rules = [("settle", 3, 4), ("deal", 3, 8), ("deal", 3, 16)]
        self.assertIsNone(twice(5, rules, 3))
        self.assertEqual(twice(5, rules, 31), (3, 4))
        source = sample_source(82)
        for many in range(1, 8):
            for turn in range(20):
                rules, part = sample_rules(source, many, 12), source.randrange(2 ** many)
                found = twice(many, rules, part)
                self.assertTrue(found is None or found[0] != part)

    def test_the_first_set_has_fewest_columns(self):
        rules = [("settle", 3, 8), ("settle", 4, 16)]
        self.assertEqual(twice(5, rules, 31), (4, 16))
        self.assertEqual(twice(5, rules, 27), (3, 8))
        self.assertEqual(twice(5, [("settle", 16, 2), ("deal", 3, 4)], 31), (16, 2))

    def test_the_first_of_as_many_columns_is_the_least_number(self):
        self.assertEqual(twice(4, [("settle", 4, 8), ("settle", 2, 8)], 15), (2, 8))
        self.assertEqual(twice(5, [("settle", 10, 16), ("settle", 9, 16), ("settle", 6, 16)], 31), (6, 16))
        self.assertEqual(twice(5, [("deal", 4, 8), ("settle", 2, 1)], 31), (2, 1))

    def test_the_first_set_need_be_no_left(self):
        # Columns out of the part lead from the one column of it to the other.
        self.assertEqual(twice(4, CHAIN, 13), (1, 4))
        # The left of the rule is partly out of the part, and another rule leads to it.
        self.assertEqual(twice(5, [("settle", 1, 2), ("settle", 6, 8)], 29), (5, 8))

    def test_fixed_columns_where_there_are_some(self):
        self.assertEqual(twice(5, [("deal", 1, 4), ("settle", 1, 2)], 31), (1, 2))
        self.assertEqual(twice(5, [("deal", 1, 4), ("settle", 1, 24)], 31), (1, 24))
        self.assertEqual(twice(5, [("deal", 1, 4), ("settle", 1, 2)], 29), (1, 4))

    def test_all_fixed_columns_of_the_part(self):
        self.assertEqual(twice(4, CHAIN, 15), (1, 6))
        self.assertEqual(twice(5, [("settle", 1, 2), ("settle", 1, 4), ("settle", 2, 8)], 31), (1, 14))
        self.assertEqual(twice(5, [("settle", 1, 2), ("settle", 1, 4), ("settle", 2, 8)], 27), (1, 10))

    def test_the_first_block_with_a_column_of_the_part(self):
        rules = [("deal", 0, 1), ("deal", 0, 2)]
        self.assertEqual(twice(4, rules, 15), (0, 1))
        self.assertEqual(twice(4, rules, 6), (0, 2))
        self.assertEqual(twice(4, rules, 14), (0, 2))
        self.assertIsNone(twice(4, rules, 12))
        self.assertEqual(twice(4, [("deal", 0, 14), ("deal", 0, 8)], 7), (0, 6))
        self.assertEqual(twice(4, [("deal", 0, 14), ("deal", 0, 8)], 15), (0, 8))

    def test_the_order_of_the_rules_may_change_the_first_block(self):
        self.assertEqual(twice(3, [("deal", 0, 1), ("deal", 0, 4)], 7), (0, 1))
        self.assertEqual(twice(3, [("deal", 0, 4), ("deal", 0, 1)], 7), (0, 4))

    def test_a_settling_rule_that_a_dealing_one_lets_be_used(self):
        rules = [("settle", 4, 8)]
        self.assertEqual(twice(4, rules, 15), (4, 8))
        self.assertEqual(twice(4, rules, 11), None)
        self.assertEqual(twice(4, rules + [("deal", 1, 4)], 11), (1, 8))

    def test_all_pairs_of_rules_of_two_columns(self):
        all_rules = list(itertools.product(WORDS, range(4), range(4)))
        for rules in itertools.product(all_rules, repeat=2):
            for part in range(4):
                self.assertEqual(twice(2, list(rules), part), plain_twice(2, rules, part))

    def test_each_rule_of_three_columns(self):
        for rule in itertools.product(WORDS, range(8), range(8)):
            for part in range(8):
                self.assertEqual(twice(3, [rule], part), plain_twice(3, [rule], part))

    def test_as_the_words_of_the_document_say(self):
        source = sample_source(83)
        seen = {True: 0, False: 0}
        for many in range(1, 8):
            for turn in range(60):
                rules = sample_rules(source, many, 12) if turn % 2 else narrow_rules(source, many, turn % 13)
                part = source.randrange(2 ** many)
                told = twice(many, rules, part)
                self.assertEqual(told, plain_twice(many, rules, part), (many, rules, part))
                self.assertEqual([type(value) for value in told or ()], [int] * len(told or ()))
                seen[told is None] += 1
        self.assertGreater(min(seen.values()), 80)

    def test_what_is_told_twice_is_so_in_books_that_keep_the_rules(self):
        source = sample_source(84)
        shown = 0
        for turn in range(150):
            rules, part = sample_rules(source, 4, 5), source.randrange(16)
            found = twice(4, rules, part)
            if found is not None:
                shown += 1
                some, again = found
                self.assertEqual((some & again, (some | again) & ~part), (0, 0))
                self.assertNotEqual((again, part & ~some & ~again), (0, 0))
                book = seen_on(keeping_book(sample_book(source, 4, 4, (0, 1, 2)), rules), part)
                for one, other in itertools.product(book, repeat=2):
                    if plain_alike(one, other, some):
                        self.assertIn(plain_mixed(one, other, some | again), book)
        self.assertGreater(shown, 40)

    def test_what_follows_in_a_part(self):
        # Point 22: blocks with columns of the part are dealt out apart there, fixed columns of it are settled.
        source = sample_source(85)
        for turn in range(60):
            rules, part = sample_rules(source, 4, 5), source.randrange(16)
            book = seen_on(keeping_book(sample_book(source, 4, 4, (0, 1, 2)), rules), part)
            for some in plain_sets_within(part):
                fixed, blocks = PlainUnfolding(4, rules, some).run().state()
                for one, other in itertools.product(book, repeat=2):
                    if plain_alike(one, other, some):
                        self.assertTrue(plain_alike(one, other, fixed & part))
                        for block in blocks:
                            self.assertIn(plain_mixed(one, other, some | block & part), book)

    def test_columns_put_in_another_order(self):
        source = sample_source(86)
        for many in range(1, 8):
            for turn in range(20):
                rules, part = sample_rules(source, many, 10), source.randrange(2 ** many)
                order = sample_order(source, many)
                there = twice(many, turned_rules(rules, order), turned(part, order))
                self.assertEqual(twice(many, rules, part) is None, there is None)

    def test_what_is_handed_in_stays(self):
        rules = list(SEVEN)
        self.assertEqual(twice(7, rules, 127), (1, 14))
        self.assertEqual(rules, SEVEN)
        rules.clear()
        self.assertIsNone(twice(7, rules, 127))
        self.assertEqual(twice(7, list(SEVEN), 127), (1, 14))


class CutTree(unittest.TestCase):
    def test_one_whole_part(self):
        for many in range(1, 8):
            whole = 2 ** many - 1
            self.assertEqual(cut_tree(many, []), ("whole", whole))
            self.assertEqual(cut_tree(many, [("settle", 0, whole)]), ("whole", whole))
            self.assertEqual(cut_tree(many, [("settle", 1, whole), ("deal", 1, whole)]), ("whole", whole))

    def test_one_cut(self):
        self.assertEqual(cut_tree(3, [("settle", 1, 2)]), ("cut", 7, 1, 2, ("whole", 3), ("whole", 5)))
        self.assertEqual(cut_tree(3, [("deal", 1, 4)]), ("cut", 7, 1, 4, ("whole", 5), ("whole", 3)))
        self.assertEqual(cut_tree(2, [("deal", 0, 2)]), ("cut", 3, 0, 2, ("whole", 2), ("whole", 1)))
        self.assertEqual(cut_tree(2, [("settle", 0, 1)]), ("cut", 3, 0, 1, ("whole", 1), ("whole", 2)))

    def test_a_cut_in_the_one_part(self):
        wanted = ("cut", 15, 1, 6, ("cut", 7, 2, 4, ("whole", 6), ("whole", 3)), ("whole", 9))
        self.assertEqual(cut_tree(4, CHAIN), wanted)

    def test_a_cut_in_the_other_part(self):
        wanted = ("cut", 7, 0, 1, ("whole", 1), ("cut", 6, 0, 2, ("whole", 2), ("whole", 4)))
        self.assertEqual(cut_tree(3, [("deal", 0, 1), ("deal", 0, 2)]), wanted)

    def test_cuts_in_both_parts(self):
        self.assertEqual(cut_tree(7, SEVEN), SEVEN_TREE)

    def test_a_cut_on_what_columns_out_of_the_part_lead_to(self):
        # In the part of the columns 0, 2 and 3 it is the column 1, cut off already, that leads from 2 to 0.
        rules = [("settle", 1, 2), ("settle", 2, 1), ("settle", 4, 2)]
        wanted = ("cut", 15, 1, 2, ("whole", 3), ("cut", 13, 4, 1, ("whole", 5), ("whole", 12)))
        self.assertEqual(cut_tree(4, rules), wanted)

    def test_as_the_words_of_the_document_say(self):
        source = sample_source(87)
        sizes = []
        for many in range(1, 8):
            for turn in range(40):
                rules = sample_rules(source, many, 12) if turn % 2 else narrow_rules(source, many, turn % 13)
                told = cut_tree(many, rules)
                self.assertEqual(told, plain_tree(many, rules, 2 ** many - 1), (many, rules))
                sizes.append(len(subtrees(told)))
        self.assertGreaterEqual(max(sizes), 9)
        self.assertGreater(sizes.count(1), 20)

    def test_all_pairs_of_rules_of_two_columns(self):
        all_rules = list(itertools.product(WORDS, range(4), range(4)))
        for rules in itertools.product(all_rules, repeat=2):
            self.assertEqual(cut_tree(2, list(rules)), plain_tree(2, rules, 3))

    def test_cuts_have_fewer_columns_and_no_whole_part_tells_twice(self):
        source = sample_source(88)
        for many in range(1, 8):
            for turn in range(20):
                rules = sample_rules(source, many, 12)
                for tree in subtrees(cut_tree(many, rules)):
                    self.assertIs(type(tree), tuple)
                    if tree[0] == "whole":
                        self.assertIsNone(plain_twice(many, rules, tree[1]))
                    else:
                        word, part, some, again, one, other = tree
                        self.assertEqual((one[1], other[1]), (some | again, part & ~again))
                        self.assertLess(max(len(columns(one[1])), len(columns(other[1]))), len(columns(part)))

    def test_the_first_cut_is_safe(self):
        source = sample_source(89)
        for many in range(2, 8):
            for turn in range(20):
                rules = sample_rules(source, many, 12)
                tree = cut_tree(many, rules)
                if tree[0] == "cut":
                    self.assertEqual(cut_in_two(many, rules, tree[4][1], tree[5][1])[0], "safe")

    def test_at_most_thirteen_parts_of_seven_columns(self):
        rules = [("deal", 0, 2 ** k) for k in range(7)]
        tree = cut_tree(7, rules)
        self.assertEqual(len(subtrees(tree)), 13)
        self.assertEqual(leaves(tree), [1, 2, 4, 8, 16, 32, 64])

    def test_more_than_sixty_parts(self):
        # No table of seven columns has such a tree; one of thirty columns has 59 parts, one of 31 would have 61.
        self.assertEqual(len(subtrees(cut_tree(30, bit_rules(30)))), 59)
        for many in (31, 32):
            with self.assertRaises(TooMany) as caught:
                cut_tree(many, bit_rules(many))
            self.assertIsInstance(caught.exception, SplitError)
        self.assertEqual(len(subtrees(cut_tree(30, bit_rules(30)))), 59)

    def test_columns_put_in_another_order_leave_a_whole_table_whole(self):
        source = sample_source(90)
        for many in range(1, 8):
            for turn in range(15):
                rules, order = sample_rules(source, many, 6), sample_order(source, many)
                there = cut_tree(many, turned_rules(rules, order))
                self.assertEqual(cut_tree(many, rules)[0], there[0])

    def test_what_is_handed_in_stays(self):
        rules = list(SEVEN)
        self.assertEqual(cut_tree(7, rules), SEVEN_TREE)
        self.assertEqual(rules, SEVEN)
        rules.pop(0)
        self.assertNotEqual(cut_tree(7, rules), SEVEN_TREE)
        self.assertEqual(cut_tree(7, list(SEVEN)), SEVEN_TREE)


class Leaves(unittest.TestCase):
    def test_one(self):
        self.assertEqual(leaves(("whole", 5)), [5])
        self.assertEqual(leaves(cut_tree(7, [])), [127])

    def test_from_left_to_right(self):
        self.assertEqual(leaves(cut_tree(3, [("deal", 1, 4)])), [5, 3])
        self.assertEqual(leaves(cut_tree(4, CHAIN)), [6, 3, 9])
        self.assertEqual(leaves(SEVEN_TREE), [6, 11, 17, 33, 65])

    def test_a_part_that_stands_twice(self):
        tree = ("cut", 7, 2, 1, ("whole", 3), ("cut", 6, 2, 4, ("whole", 6), ("whole", 2)))
        self.assertEqual(leaves(tree), [3, 6, 2])
        tree = ("cut", 7, 2, 1, ("cut", 3, 2, 1, ("whole", 3), ("whole", 2)), tree[5])
        self.assertEqual(leaves(tree), [3, 2, 6, 2])

    def test_many(self):
        source = sample_source(91)
        for many in range(1, 8):
            for turn in range(20):
                tree = cut_tree(many, sample_rules(source, many, 12))
                told = leaves(tree)
                self.assertIs(type(told), list)
                self.assertEqual(told, plain_leaves(tree))
                self.assertEqual(set().union(*[columns(part) for part in told]), set(range(many)))

    def test_a_deep_tree(self):
        tree = cut_tree(30, bit_rules(30))
        self.assertEqual(leaves(tree), plain_leaves(tree))
        self.assertEqual(sorted(leaves(tree)), [2 ** k for k in range(30)])

    def test_the_told_list_is_new(self):
        tree = copy.deepcopy(SEVEN_TREE)
        leaves(tree).append(0)
        leaves(tree).clear()
        leaves(("whole", 3)).append(4)
        self.assertEqual((leaves(tree), tree), ([6, 11, 17, 33, 65], SEVEN_TREE))
        self.assertEqual(leaves(("whole", 3)), [3])


class Grown(unittest.TestCase):
    def test_one_whole_part(self):
        book = [(2, 1, 5), (1, 1, 5), (2, 1, 5)]
        self.assertEqual(grown(book, ("whole", 7)), [(1, 1, 5), (2, 1, 5)])
        self.assertEqual(grown(book, ("whole", 6)), [(0, 1, 5)])
        self.assertEqual(grown([], ("whole", 7)), [])

    def test_a_book_that_keeps_the_rules(self):
        book = [(2, 7, 1), (1, 8, 1), (1, 8, 2), (2, 7, 1)]
        tree = cut_tree(3, [("settle", 1, 2)])
        self.assertEqual(grown(book, tree), [(1, 8, 1), (1, 8, 2), (2, 7, 1)])
        book = [(1, 8, 1), (1, 9, 1), (1, 8, 2), (1, 9, 2), (2, 8, 3)]
        self.assertEqual(grown(book, cut_tree(3, [("deal", 1, 2)])), sorted(book))

    def test_a_book_that_does_not_keep_them(self):
        book = [(0, 0, 0), (0, 1, 1)]
        wanted = [(0, 0, 0), (0, 0, 1), (0, 1, 0), (0, 1, 1)]
        self.assertEqual(grown(book, cut_tree(3, [("settle", 1, 2)])), wanted)
        self.assertEqual(grown(book, cut_tree(3, [("deal", 1, 2)])), wanted)
        self.assertEqual(grown([(1, 2), (3, 4)], cut_tree(2, [("deal", 0, 1)])), [(1, 2), (1, 4), (3, 2), (3, 4)])

    def test_several_cuts(self):
        book = [(1, 5, 8, 0), (2, 5, 8, 1), (3, 6, 9, 0), (3, 6, 9, 2)]
        self.assertTrue(keeps(book, CHAIN))
        self.assertEqual(grown(book, cut_tree(4, CHAIN)), book)
        broken = [(1, 5, 8, 0), (2, 5, 9, 1)]
        wanted = [(1, 5, 8, 0), (1, 5, 9, 0), (2, 5, 8, 1), (2, 5, 9, 1)]
        self.assertEqual(grown(broken, cut_tree(4, CHAIN)), wanted)

    def test_no_rows_and_numbers_of_sixty_figures(self):
        tree = cut_tree(7, SEVEN)
        self.assertEqual(grown([], tree), [])
        book = [(BIG, -BIG, 0, BIG, 1, 2, -BIG)]
        self.assertEqual(grown(book, tree), book)

    def test_sixteen_rows(self):
        book = [(0, 0, 0, 0) + row for row in itertools.product((0, 1), (0, 1), (0, 1))]
        book += [(1, 0, 0, 0) + row for row in itertools.product((0, 1), (0, 1), (0, 1))]
        self.assertEqual(grown(book[::-1], SEVEN_TREE), book)

    def test_a_book_that_keeps_the_rules_is_itself_at_each_node(self):
        source = sample_source(92)
        cuts = 0
        for many in range(1, 6):
            for turn in range(40):
                rules = sample_rules(source, many, 5)
                tree = cut_tree(many, rules)
                book = keeping_book(sample_book(source, many, 4, (0, 1, 2)), rules)
                self.assertEqual(grown(book, tree), book)
                for inner in subtrees(tree):
                    self.assertEqual(grown(book, inner), plain_seen(book, inner[1]))
                    cuts += inner[0] == "cut"
        self.assertGreater(cuts, 100)

    def test_books_of_six_and_seven_columns(self):
        source = sample_source(93)
        for many in (6, 7):
            for turn in range(40):
                rules = sample_rules(source, many, 12)
                tree = cut_tree(many, rules)
                book = keeping_book(sample_book(source, many, 2), rules)
                self.assertEqual(grown(book, tree), book)

    def test_all_books_of_three_columns(self):
        source = sample_source(94)
        books = all_books(3)
        for turn in range(25):
            rules = sample_rules(source, 3, 4)
            tree = cut_tree(3, rules)
            for book in books:
                if plain_keeps(book, rules):
                    self.assertEqual(grown(book, tree), book)

    def test_books_that_do_not_keep_the_rules_gain_rows_and_lose_none(self):
        source = sample_source(95)
        gained = 0
        for many in range(2, 8):
            for turn in range(25):
                tree = cut_tree(many, sample_rules(source, many, 8))
                book = sample_book(source, many, 3, (0, 1, 2))
                told = grown(book, tree)
                self.assertEqual(told, plain_grown(book, tree))
                self.assertLessEqual(set(book), set(told))
                gained += len(told) > len(set(book))
        self.assertGreater(gained, 20)

    def test_what_is_handed_in_stays_and_the_told_list_is_new(self):
        book, tree = [(0, 0, 0), (0, 1, 1)], cut_tree(3, [("settle", 1, 2)])
        kept = list(book)
        told = grown(book, tree)
        self.assertEqual((book, tree), (kept, cut_tree(3, [("settle", 1, 2)])))
        told.clear()
        self.assertEqual(len(grown(book, tree)), 4)
        whole = grown(book, ("whole", 7))
        self.assertEqual(whole, book)
        whole.append((9, 9, 9))
        self.assertEqual((book, grown(book, ("whole", 7))), (kept, kept))
        first = grown(book, tree)
        book.pop()
        self.assertEqual((len(first), grown(book, tree)), (4, [(0, 0, 0)]))


if __name__ == "__main__":
    unittest.main()
