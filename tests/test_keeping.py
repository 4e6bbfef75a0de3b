"""Points 2, 3, 26, 27 and 28: rules looked at part by part."""

import itertools
import unittest

from samples import (columns, in_order, keeping_book, keeping_sets, narrow_rules, plain_book, plain_breaches,
                     plain_follows, plain_keeps, plain_seen, plain_sets_within, sample_book, sample_order, sample_rule,
                     sample_rules, sample_source, set_keeps, settling, turned_rules)
from splithouse.books import book_of, breach, keeps
from splithouse.covers import cover
from splithouse.errors import NoCut, SplitError, TooMany
from splithouse.filled import is_safe
from splithouse.follows import follows
from splithouse.keeping import own_rules, part_by_part, parts_by_cover
from splithouse.sets import turned

WORDS = ("settle", "deal")

CHAIN = [("settle", 1, 2), ("settle", 2, 4)]

PAIRS = [2 ** one + 2 ** other for one, other in itertools.combinations(range(6), 2)]


def pair_rules(count):
    """So many rules of seven columns, of which each settles the last column by another two."""
    return [("settle", pair, 64) for pair in PAIRS[:count]]


def plain_settled(sets, many, some):
    """The columns that no set whose book keeps the rules has, of those that have no column of the set."""
    return [k for k in range(many) if not any(k in columns(block) and not block & some for block in sets)]


def plain_own_rules(many, rules, part):
    """Point 26."""
    sets, told = keeping_sets(many, rules), []
    for some in plain_sets_within(part):
        for k in plain_settled(sets, many, some):
            lesser = [inner for inner in plain_sets_within(some) if inner != some]
            if k in columns(part) - columns(some) and not any(k in plain_settled(sets, many, z) for z in lesser):
                told.append(("settle", some, 2 ** k))
    return told


def plain_part_by_part(many, rules, parts, rule):
    """Point 27."""
    sets, there, gains = keeping_sets(many, rules), columns(rule[1]), []
    more = True
    while more:
        more = False
        for at, part in enumerate(parts):
            inner = sum(2 ** k for k in there & columns(part))
            gained = (set(plain_settled(sets, many, inner)) & columns(part)) - there
            if gained and not more:
                gains.append((at, sum(2 ** k for k in gained)))
                there, more = there | gained, True
    reached = sum(2 ** k for k in there)
    return ("yes", gains) if columns(rule[2]) <= there else ("no", reached)


def plain_keys(many, rules):
    sets = keeping_sets(many, rules)
    wholes = [some for some in range(2 ** many) if len(plain_settled(sets, many, some)) == many]
    return in_order(some for some in wholes if not any(one != some and one & some == one for one in wholes))


def plain_parts(many, rules):
    """Point 28, whatever number of parts are left."""
    least = cover(many, settling(rules))
    lefts = list(dict.fromkeys(left for word, left, right in least))
    parts = [columns(one).union(*[columns(right) for word, left, right in least if left == one]) for one in lefts]
    found = plain_keys(many, settling(rules))
    if not any(columns(key) <= part for key in found for part in parts):
        parts.append(columns(found[0]))
    for part in list(parts):
        # Of parts that are the same the first that is still there is taken out.
        at = next(k for k, one in enumerate(parts) if one is part)
        if any(part <= other for k, other in enumerate(parts) if k != at):
            parts.pop(at)
    return [sum(2 ** k for k in part) for part in parts]


def all_own(many, rules, parts):
    return [rule for part in parts for rule in own_rules(many, rules, part)]


def sample_parts(source, many, most):
    return [source.randrange(2 ** many) for turn in range(source.randrange(1, most + 1))]


class OwnRules(unittest.TestCase):
    def test_none(self):
        for many in range(1, 8):
            for part in range(2 ** many):
                self.assertEqual(own_rules(many, [], part), [])
        self.assertEqual(own_rules(3, [("settle", 1, 1), ("settle", 1, 0), ("deal", 0, 1), ("deal", 1, 2)], 7), [])
        self.assertEqual(own_rules(3, [("settle", 0, 7)], 0), [])
        self.assertEqual(own_rules(3, CHAIN, 1), [])

    def test_a_left_or_a_column_out_of_the_part(self):
        self.assertEqual(own_rules(3, [("settle", 3, 4)], 7), [("settle", 3, 4)])
        self.assertEqual(own_rules(3, [("settle", 3, 4)], 3), [])
        self.assertEqual(own_rules(3, [("settle", 3, 4)], 5), [])
        self.assertEqual(own_rules(3, [("settle", 3, 4)], 6), [])

    def test_a_right_with_several_columns(self):
        self.assertEqual(own_rules(4, [("settle", 1, 15)], 15), [("settle", 1, 2), ("settle", 1, 4), ("settle", 1, 8)])
        self.assertEqual(own_rules(4, [("settle", 1, 15)], 11), [("settle", 1, 2), ("settle", 1, 8)])

    def test_what_columns_out_of_the_part_lead_to(self):
        self.assertEqual(own_rules(3, CHAIN, 7), [("settle", 1, 2), ("settle", 1, 4), ("settle", 2, 4)])
        self.assertEqual(own_rules(3, CHAIN, 5), [("settle", 1, 4)])
        self.assertEqual(own_rules(4, [("settle", 1, 2), ("settle", 6, 8)], 13), [("settle", 5, 8)])

    def test_the_order_of_the_lefts_then_of_the_columns(self):
        rules = [("settle", 3, 16), ("settle", 8, 4), ("settle", 8, 1), ("settle", 4, 2)]
        wanted = [("settle", 4, 2), ("settle", 8, 1), ("settle", 8, 2), ("settle", 8, 4), ("settle", 8, 16),
                  ("settle", 3, 16), ("settle", 5, 16)]
        self.assertEqual(own_rules(5, rules, 31), wanted)
        self.assertEqual(own_rules(5, rules[::-1], 31), wanted)

    def test_a_left_without_columns(self):
        self.assertEqual(own_rules(3, [("settle", 0, 6)], 7), [("settle", 0, 2), ("settle", 0, 4)])
        self.assertEqual(own_rules(3, [("settle", 0, 6), ("settle", 1, 2)], 7), [("settle", 0, 2), ("settle", 0, 4)])
        self.assertEqual(own_rules(3, [("settle", 0, 1), ("settle", 1, 4)], 6), [("settle", 0, 4)])
        self.assertEqual(own_rules(1, [("settle", 0, 1)], 1), [("settle", 0, 1)])

    def test_no_left_that_could_be_less(self):
        self.assertEqual(own_rules(4, [("settle", 3, 4), ("settle", 1, 4)], 15), [("settle", 1, 4)])
        self.assertEqual(own_rules(4, [("settle", 11, 4), ("settle", 3, 4), ("settle", 10, 4)], 15),
                         [("settle", 3, 4), ("settle", 10, 4)])
        # The lesser left may be so for one column and not for another.
        self.assertEqual(own_rules(4, [("settle", 3, 12), ("settle", 1, 8)], 15), [("settle", 1, 8), ("settle", 3, 4)])

    def test_rules_that_follow_by_dealing_ones(self):
        self.assertEqual(own_rules(4, [("settle", 4, 8)], 15), [("settle", 4, 8)])
        wanted = [("settle", 1, 8), ("settle", 4, 8)]
        self.assertEqual(own_rules(4, [("settle", 4, 8), ("deal", 1, 4)], 15), wanted)
        self.assertEqual(own_rules(4, [("settle", 4, 8), ("deal", 1, 4)], 11), wanted[:1])
        self.assertEqual(own_rules(4, [("settle", 4, 8), ("deal", 0, 4)], 15), [("settle", 0, 8)])

    def test_no_rule_whose_column_is_in_its_left(self):
        self.assertEqual(own_rules(2, [("settle", 1, 3), ("settle", 2, 3)], 3), [("settle", 1, 2), ("settle", 2, 1)])
        source = sample_source(101)
        for many in range(1, 8):
            for turn in range(10):
                for word, left, right in own_rules(many, sample_rules(source, many, 12), 2 ** many - 1):
                    self.assertEqual(left & right, 0)

    def test_many_rules(self):
        self.assertEqual(own_rules(7, pair_rules(12), 127), [("settle", pair, 64) for pair in sorted(PAIRS[:12])])
        rules = [("settle", 2 ** k, 2 ** ((k + 1) % 7)) for k in range(7)]
        wanted = [("settle", 2 ** one, 2 ** other) for one in range(7) for other in range(7) if one != other]
        self.assertEqual(own_rules(7, rules, 127), wanted)

    def test_all_pairs_of_rules_of_two_columns(self):
        all_rules = list(itertools.product(WORDS, range(4), range(4)))
        for rules in itertools.product(all_rules, repeat=2):
            for part in range(4):
                self.assertEqual(own_rules(2, list(rules), part), plain_own_rules(2, rules, part))

    def test_as_the_words_of_the_document_say(self):
        source = sample_source(102)
        told = 0
        for many in range(1, 8):
            for turn in range(16):
                rules = sample_rules(source, many, 12) if turn % 2 else narrow_rules(source, many, turn % 13)
                part = source.randrange(2 ** many) | source.randrange(2 ** many)
                own = own_rules(many, rules, part)
                self.assertEqual(own, plain_own_rules(many, rules, part), (many, rules, part))
                told += len(own)
        self.assertGreater(told, 150)

    def test_each_follows_and_with_no_column_less(self):
        source = sample_source(103)
        for many in range(1, 8):
            for turn in range(10):
                rules = sample_rules(source, many, 12)
                for word, left, right in own_rules(many, rules, 2 ** many - 1):
                    self.assertEqual((word, type(left), type(right), len(columns(right))), ("settle", int, int, 1))
                    self.assertTrue(plain_follows(many, rules, (word, left, right)))
                    for k in columns(left):
                        self.assertFalse(plain_follows(many, rules, (word, left - 2 ** k, right)))

    def test_each_rule_that_follows_in_the_part_follows_from_its_own(self):
        source = sample_source(104)
        for many in range(1, 6):
            for turn in range(15):
                rules, part = sample_rules(source, many, 8), source.randrange(2 ** many)
                own = own_rules(many, rules, part)
                for left in plain_sets_within(part):
                    for k in columns(part):
                        rule = ("settle", left, 2 ** k)
                        self.assertEqual(follows(many, own, rule)[0], follows(many, rules, rule)[0])

    def test_a_book_that_keeps_the_rules_seen_on_the_part_keeps_its_own(self):
        source = sample_source(105)
        for turn in range(60):
            rules, part = sample_rules(source, 4, 5), source.randrange(16)
            book = keeping_book(sample_book(source, 4, 4, (0, 1, 2)), rules)
            self.assertTrue(plain_keeps(plain_seen(book, part), own_rules(4, rules, part)))

    def test_columns_put_in_another_order(self):
        source = sample_source(106)
        for many in range(1, 8):
            for turn in range(10):
                rules, part = sample_rules(source, many, 10), source.randrange(2 ** many)
                order = sample_order(source, many)
                there = own_rules(many, turned_rules(rules, order), turned(part, order))
                self.assertEqual(sorted(there), sorted(turned_rules(own_rules(many, rules, part), order)))

    def test_what_is_handed_in_stays_and_the_told_list_is_new(self):
        rules = list(CHAIN)
        told = own_rules(3, rules, 7)
        self.assertEqual(rules, CHAIN)
        told.clear()
        wanted = [("settle", 1, 2), ("settle", 1, 4), ("settle", 2, 4)]
        self.assertEqual(own_rules(3, rules, 7), wanted)
        own_rules(3, [], 7).append(("settle", 1, 2))
        self.assertEqual(own_rules(3, [], 7), [])
        first = own_rules(3, rules, 7)
        rules.pop()
        self.assertEqual((first, own_rules(3, rules, 7)), (wanted, wanted[:1]))


class PartByPart(unittest.TestCase):
    def test_yes_without_gains(self):
        self.assertEqual(part_by_part(3, [], [7], ("settle", 3, 1)), ("yes", []))
        self.assertEqual(part_by_part(3, [], [3, 5], ("settle", 1, 0)), ("yes", []))
        self.assertEqual(part_by_part(3, CHAIN, [1, 2, 4], ("settle", 3, 3)), ("yes", []))
        self.assertEqual(part_by_part(3, CHAIN, [0], ("settle", 7, 7)), ("yes", []))

    def test_yes_with_one_gain(self):
        self.assertEqual(part_by_part(3, CHAIN, [7], ("settle", 1, 4)), ("yes", [(0, 6)]))
        self.assertEqual(part_by_part(3, CHAIN, [3, 5], ("settle", 2, 2)), ("yes", []))
        self.assertEqual(part_by_part(3, [("settle", 0, 2)], [4, 2], ("settle", 0, 2)), ("yes", [(1, 2)]))

    def test_yes_with_several_gains(self):
        self.assertEqual(part_by_part(3, CHAIN, [3, 6], ("settle", 1, 4)), ("yes", [(0, 2), (1, 4)]))
        rules = CHAIN + [("settle", 4, 8), ("settle", 5, 16)]
        self.assertEqual(part_by_part(5, rules, [3, 6, 12, 21], ("settle", 1, 24)),
                         ("yes", [(0, 2), (1, 4), (2, 8), (3, 16)]))

    def test_parts_are_looked_through_anew_from_the_first(self):
        self.assertEqual(part_by_part(3, CHAIN, [6, 3], ("settle", 1, 4)), ("yes", [(1, 2), (0, 4)]))
        rules = [("settle", 1, 2), ("settle", 2, 8), ("settle", 1, 4), ("settle", 4, 16)]
        self.assertEqual(part_by_part(5, rules, [20, 10, 3, 5], ("settle", 1, 16)),
                         ("yes", [(2, 2), (1, 8), (3, 4), (0, 16)]))

    def test_gains_go_on_after_all_of_the_right_is_there(self):
        self.assertEqual(part_by_part(3, CHAIN, [3, 6], ("settle", 1, 2)), ("yes", [(0, 2), (1, 4)]))
        self.assertEqual(part_by_part(3, CHAIN, [3, 6], ("settle", 1, 1)), ("yes", [(0, 2), (1, 4)]))
        self.assertEqual(part_by_part(3, CHAIN, [3, 6], ("settle", 1, 0)), ("yes", [(0, 2), (1, 4)]))
        self.assertEqual(part_by_part(3, CHAIN, [7], ("settle", 2, 2)), ("yes", [(0, 4)]))

    def test_no_with_the_set_come_to(self):
        self.assertEqual(part_by_part(3, [], [7], ("settle", 1, 2)), ("no", 1))
        self.assertEqual(part_by_part(3, [], [7], ("settle", 0, 2)), ("no", 0))
        self.assertEqual(part_by_part(4, CHAIN, [3, 6], ("settle", 1, 8)), ("no", 7))
        self.assertEqual(part_by_part(4, CHAIN, [3, 9], ("settle", 1, 12)), ("no", 3))

    def test_a_rule_that_follows_but_not_part_by_part(self):
        self.assertEqual(follows(3, [("settle", 3, 4)], ("settle", 3, 4))[0], "yes")
        self.assertEqual(part_by_part(3, [("settle", 3, 4)], [5, 6], ("settle", 3, 4)), ("no", 3))
        self.assertEqual(part_by_part(3, [("settle", 3, 4)], [5, 7], ("settle", 3, 4)), ("yes", [(1, 4)]))
        rules = [("settle", 3, 4), ("settle", 4, 1)]
        self.assertEqual(part_by_part(3, rules, [5, 6], rules[0]), ("no", 3))
        self.assertEqual(part_by_part(3, rules, [5, 6], rules[1]), ("yes", [(0, 1)]))

    def test_only_columns_of_the_part_are_gained(self):
        self.assertEqual(part_by_part(3, CHAIN, [3], ("settle", 1, 4)), ("no", 3))
        self.assertEqual(part_by_part(3, CHAIN, [5], ("settle", 1, 2)), ("no", 5))
        self.assertEqual(part_by_part(4, [("settle", 1, 14)], [5, 9], ("settle", 1, 12)), ("yes", [(0, 4), (1, 8)]))

    def test_columns_out_of_the_part_may_lead_on(self):
        self.assertEqual(part_by_part(3, CHAIN, [5], ("settle", 1, 4)), ("yes", [(0, 4)]))

    def test_only_columns_of_the_set_in_the_part_are_unfolded(self):
        self.assertEqual(part_by_part(4, [("settle", 9, 4)], [5, 6], ("settle", 9, 4)), ("no", 9))
        self.assertEqual(part_by_part(3, CHAIN, [4], ("settle", 1, 4)), ("no", 1))

    def test_dealing_rules_count(self):
        rules = [("settle", 4, 8), ("deal", 1, 4)]
        self.assertEqual(part_by_part(4, rules, [3, 9], ("settle", 1, 8)), ("yes", [(1, 8)]))
        self.assertEqual(part_by_part(4, rules[:1], [3, 9], ("settle", 1, 8)), ("no", 1))

    def test_no_parts_and_more_than_ten(self):
        for parts in ([], [7] * 11, [1] * 11, list(range(8)) * 2):
            with self.assertRaises(TooMany) as caught:
                part_by_part(3, CHAIN, parts, ("settle", 1, 4))
            self.assertIsInstance(caught.exception, SplitError)

    def test_ten_parts_and_one(self):
        self.assertEqual(part_by_part(3, CHAIN, [0] * 8 + [3, 6], ("settle", 1, 4)), ("yes", [(8, 2), (9, 4)]))
        self.assertEqual(part_by_part(3, CHAIN, [7] * 10, ("settle", 1, 4)), ("yes", [(0, 6)]))
        self.assertEqual(part_by_part(3, CHAIN, [3], ("settle", 1, 2)), ("yes", [(0, 2)]))

    def test_parts_that_leave_a_column_out_are_not_refused(self):
        self.assertEqual(part_by_part(3, CHAIN, [0], ("settle", 1, 4)), ("no", 1))
        self.assertEqual(part_by_part(7, CHAIN, [3, 0], ("settle", 64, 64)), ("yes", []))

    def test_all_parts_by_pairs_of_rules_of_two_columns(self):
        all_rules = list(itertools.product(WORDS, range(4), range(4)))
        parts = [list(pair) for pair in itertools.product(range(4), repeat=2)]
        for rules in itertools.combinations(all_rules, 2):
            for some in parts:
                for rule in (("settle", 0, 3), ("settle", 1, 2), ("settle", 2, 1)):
                    self.assertEqual(part_by_part(2, list(rules), some, rule),
                                     plain_part_by_part(2, rules, some, rule))

    def test_as_the_words_of_the_document_say(self):
        source = sample_source(107)
        seen = {"yes": 0, "no": 0}
        for many in range(1, 8):
            for turn in range(40):
                rules = sample_rules(source, many, 12) if turn % 2 else narrow_rules(source, many, turn % 13)
                parts = sample_parts(source, many, 10)
                rule = ("settle",) + sample_rule(source, many)[1:]
                told = part_by_part(many, rules, parts, rule)
                self.assertEqual(told, plain_part_by_part(many, rules, parts, rule), (many, rules, parts, rule))
                self.assertIs(type(told[1]), list if told[0] == "yes" else int)
                seen[told[0]] += 1
        self.assertGreater(min(seen.values()), 60)

    def test_just_where_it_follows_from_the_own_rules_of_all_parts(self):
        source = sample_source(108)
        for many in range(1, 8):
            for turn in range(15):
                rules, parts = sample_rules(source, many, 8), sample_parts(source, many, 4)
                own = all_own(many, rules, parts)
                for again in range(5):
                    rule = ("settle",) + sample_rule(source, many)[1:]
                    self.assertEqual(part_by_part(many, rules, parts, rule)[0], follows(many, own, rule)[0])

    def test_where_it_is_not_a_book_keeps_all_own_rules_and_breaks_the_rule(self):
        source = sample_source(109)
        shown = 0
        for many in range(1, 8):
            for turn in range(30):
                rules, parts = sample_rules(source, many, 8), sample_parts(source, many, 10)
                rule = ("settle",) + sample_rule(source, many)[1:]
                word, reached = part_by_part(many, rules, parts, rule)
                if word == "no":
                    rest = 2 ** many - 1 - reached
                    book = book_of(many, rest)
                    self.assertEqual(book, plain_book(many, rest))
                    for part in parts:
                        own = own_rules(many, rules, part)
                        self.assertTrue(keeps(book, own) and plain_keeps(book, own))
                        self.assertTrue(keeps(plain_seen(book, part), own))
                    self.assertTrue(breach(book, rule) in plain_breaches(book, rule) and not set_keeps(rest, rule))
                    shown += 1
        self.assertGreater(shown, 60)

    def test_where_it_is_no_book_whose_parts_keep_their_own_rules_breaks_it(self):
        source = sample_source(110)
        shown = 0
        for turn in range(300):
            rules, parts = sample_rules(source, 4, 5), sample_parts(source, 4, 3)
            rule = ("settle",) + sample_rule(source, 4)[1:]
            if part_by_part(4, rules, parts, rule)[0] == "yes":
                book = sample_book(source, 4, 3)
                if all(plain_keeps(plain_seen(book, part), own_rules(4, rules, part)) for part in parts):
                    self.assertEqual(plain_breaches(book, rule), [])
                    shown += 1
        self.assertGreater(shown, 30)

    def test_columns_put_in_another_order(self):
        source = sample_source(111)
        for many in range(1, 8):
            for turn in range(15):
                rules, parts = sample_rules(source, many, 8), sample_parts(source, many, 5)
                rule, order = ("settle",) + sample_rule(source, many)[1:], sample_order(source, many)
                there = part_by_part(many, turned_rules(rules, order), [turned(part, order) for part in parts],
                                     turned_rules([rule], order)[0])
                word, told = part_by_part(many, rules, parts, rule)
                if word == "no":
                    self.assertEqual(there, ("no", turned(told, order)))
                else:
                    self.assertEqual(there, ("yes", [(at, turned(gained, order)) for at, gained in told]))

    def test_what_is_handed_in_stays_and_the_told_list_is_new(self):
        rules, parts = list(CHAIN), [3, 6]
        told = part_by_part(3, rules, parts, ("settle", 1, 4))
        self.assertEqual((rules, parts), (CHAIN, [3, 6]))
        told[1].clear()
        wanted = ("yes", [(0, 2), (1, 4)])
        self.assertEqual(part_by_part(3, rules, parts, ("settle", 1, 4)), wanted)
        part_by_part(3, [], [7], ("settle", 1, 1))[1].append((0, 1))
        self.assertEqual(part_by_part(3, [], [7], ("settle", 1, 1)), ("yes", []))
        first = part_by_part(3, rules, parts, ("settle", 1, 4))
        parts.pop()
        self.assertEqual(part_by_part(3, rules, parts, ("settle", 1, 4)), ("no", 3))
        rules.clear()
        self.assertEqual(part_by_part(3, rules, parts, ("settle", 1, 4)), ("no", 1))
        self.assertEqual(first, wanted)


class PartsByCover(unittest.TestCase):
    def test_no_rules(self):
        for many in range(1, 8):
            self.assertEqual(parts_by_cover(many, []), [2 ** many - 1])

    def test_rules_that_say_nothing(self):
        self.assertEqual(parts_by_cover(3, [("settle", 1, 1), ("settle", 3, 0), ("settle", 7, 7)]), [7])

    def test_dealing_rules_are_passed_over(self):
        self.assertEqual(parts_by_cover(3, [("deal", 1, 2), ("deal", 0, 4)]), [7])
        # By the dealing rule the column 0 alone would be a key.
        rules = [("settle", 2, 4), ("settle", 4, 2), ("deal", 1, 2)]
        self.assertEqual(parts_by_cover(3, rules), [6, 3])
        # By the dealing rule the second settling one would follow from the first, and the cover be without it.
        rules = [("settle", 4, 8), ("settle", 1, 8), ("deal", 1, 4)]
        self.assertEqual(cover(4, rules), [("settle", 4, 8), ("deal", 1, 4)])
        self.assertEqual(parts_by_cover(4, rules), [12, 9, 7])
        source = sample_source(112)
        for many in range(1, 8):
            for turn in range(20):
                rules = sample_rules(source, many, 9)
                self.assertEqual(parts_by_cover(many, rules), parts_by_cover(many, settling(rules)))

    def test_one_part_for_each_left_in_the_order_in_which_they_first_stand(self):
        rules = [("settle", 2, 4), ("settle", 1, 2), ("settle", 2, 8)]
        self.assertEqual(cover(4, rules), rules)
        self.assertEqual(parts_by_cover(4, rules), [14, 3])
        self.assertEqual(parts_by_cover(4, rules[1:] + rules[:1]), [3, 14])
        self.assertEqual(parts_by_cover(4, [("settle", 2, 12), ("settle", 1, 2)]), [14, 3])

    def test_lefts_that_stand_more_than_once(self):
        self.assertEqual(parts_by_cover(3, [("settle", 1, 2), ("settle", 1, 4)]), [7])
        self.assertEqual(parts_by_cover(3, [("settle", 1, 6)]), [7])
        self.assertEqual(parts_by_cover(5, [("settle", 3, 4), ("settle", 8, 1), ("settle", 3, 16)]), [23, 9, 10])

    def test_a_left_that_the_cover_makes_less(self):
        self.assertEqual(parts_by_cover(4, [("settle", 1, 2), ("settle", 3, 4)]), [7, 9])
        self.assertEqual(parts_by_cover(3, [("settle", 1, 2), ("settle", 2, 4), ("settle", 1, 4)]), [3, 6])

    def test_a_left_without_columns(self):
        self.assertEqual(parts_by_cover(3, [("settle", 0, 7)]), [7])
        self.assertEqual(parts_by_cover(3, [("settle", 0, 3)]), [3, 4])
        self.assertEqual(parts_by_cover(3, [("settle", 0, 2), ("settle", 1, 4)]), [2, 5])
        self.assertEqual(parts_by_cover(1, [("settle", 0, 1)]), [1])

    def test_the_first_key_where_no_part_holds_one(self):
        self.assertEqual(parts_by_cover(3, [("settle", 1, 2)]), [3, 5])
        self.assertEqual(parts_by_cover(4, [("settle", 1, 2), ("settle", 4, 8)]), [3, 12, 5])
        # The keys are 5, 6, 9 and 10; the first in the order of sets is put in, and it alone.
        rules = [("settle", 8, 4), ("settle", 4, 8), ("settle", 2, 1), ("settle", 1, 2)]
        self.assertEqual(parts_by_cover(4, rules), [12, 3, 5])

    def test_no_key_where_a_part_holds_one(self):
        self.assertEqual(parts_by_cover(3, CHAIN), [3, 6])
        # The keys are 3 and 5; the part holds the latter alone.
        self.assertEqual(parts_by_cover(4, [("settle", 5, 10), ("settle", 2, 4)]), [15])
        self.assertEqual(parts_by_cover(3, [("settle", 4, 2), ("settle", 3, 4)]), [7])

    def test_parts_within_others_are_left_out(self):
        self.assertEqual(parts_by_cover(3, [("settle", 2, 1), ("settle", 5, 2)]), [7])
        self.assertEqual(parts_by_cover(3, [("settle", 5, 2), ("settle", 2, 1)]), [7])
        self.assertEqual(parts_by_cover(2, [("settle", 1, 2), ("settle", 2, 1)]), [3])

    def test_of_parts_that_are_the_same_the_last_stays(self):
        rules = [("settle", 1, 2), ("settle", 4, 1), ("settle", 2, 1)]
        self.assertEqual(cover(3, rules), rules)
        self.assertEqual(parts_by_cover(3, rules), [5, 3])
        self.assertEqual(parts_by_cover(3, [rules[0], rules[2], rules[1]]), [3, 5])

    def test_ten_parts_and_more(self):
        self.assertEqual(parts_by_cover(7, pair_rules(9)), [pair + 64 for pair in PAIRS[:9]] + [63])
        for count in (10, 11, 12):
            with self.assertRaises(TooMany) as caught:
                parts_by_cover(7, pair_rules(count))
            self.assertNotIsInstance(caught.exception, NoCut)

    def test_they_are_counted_when_those_within_others_are_left_out(self):
        # Eleven lefts, but the part of the first lies within that of the last.
        rules = [("settle", 64, 1)] + pair_rules(9) + [("settle", 64 + 2, 32)]
        self.assertEqual(plain_parts(7, rules), parts_by_cover(7, rules))
        self.assertEqual(len({left for word, left, right in cover(7, rules)}), 11)

    def test_all_pairs_of_rules_of_two_columns(self):
        all_rules = list(itertools.product(WORDS, range(4), range(4)))
        for rules in itertools.product(all_rules, repeat=2):
            self.assertEqual(parts_by_cover(2, list(rules)), plain_parts(2, rules))

    def test_as_the_words_of_the_document_say(self):
        source = sample_source(113)
        sizes = []
        for many in range(1, 8):
            for turn in range(40):
                rules = sample_rules(source, many, 12) if turn % 2 else narrow_rules(source, many, turn % 13)
                wanted = plain_parts(many, rules)
                sizes.append(len(wanted))
                if len(wanted) > 10:
                    with self.assertRaises(TooMany):
                        parts_by_cover(many, rules)
                else:
                    told = parts_by_cover(many, rules)
                    self.assertEqual(told, wanted, (many, rules))
                    self.assertIs(type(told), list)
        self.assertGreaterEqual(max(sizes), 7)

    def test_all_settling_rules_can_be_looked_at_part_by_part_and_the_cut_is_safe(self):
        source = sample_source(114)
        for many in range(1, 8):
            for turn in range(30):
                rules = settling(sample_rules(source, many, 9) if turn % 2 else narrow_rules(source, many, turn % 10))
                parts = parts_by_cover(many, rules)
                self.assertTrue(is_safe(many, rules, parts))
                for rule in rules:
                    self.assertEqual(part_by_part(many, rules, parts, rule)[0], "yes")

    def test_no_part_lies_within_another(self):
        source = sample_source(115)
        for many in range(1, 8):
            for turn in range(20):
                parts = parts_by_cover(many, sample_rules(source, many, 9))
                for one, other in itertools.permutations(parts, 2):
                    self.assertFalse(columns(one) <= columns(other))

    def test_what_is_handed_in_stays_and_the_told_list_is_new(self):
        rules = [("settle", 1, 2), ("deal", 0, 1)]
        kept = list(rules)
        told = parts_by_cover(3, rules)
        self.assertEqual((told, rules), ([3, 5], kept))
        told.clear()
        self.assertEqual(parts_by_cover(3, rules), [3, 5])
        parts_by_cover(3, []).append(1)
        self.assertEqual(parts_by_cover(3, []), [7])
        first = parts_by_cover(3, rules)
        rules.append(("settle", 2, 4))
        self.assertEqual((first, parts_by_cover(3, rules)), ([3, 5], [3, 6]))
        many = pair_rules(12)
        with self.assertRaises(TooMany):
            parts_by_cover(7, many)
        self.assertEqual(many, pair_rules(12))


if __name__ == "__main__":
    unittest.main()
