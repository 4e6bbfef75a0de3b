"""Points 1, 2, 3 and 5 over the whole program."""

import copy
import itertools
import unittest

from samples import (PlainUnfolding, columns, keeping_book, narrow_rules, plain_alike, plain_book, plain_breaches,
                     plain_keeps, plain_seen, put_again, sample_book, sample_cut, sample_names, sample_order,
                     sample_rule, sample_rules, sample_source, settling, told_rule, turned_rules)
from splithouse.books import alike, book_of, breach, keeps, mixed, put_together, seen_on
from splithouse.covers import cover
from splithouse.cuts import cut_in_two
from splithouse.desk import Desk
from splithouse.filled import filled, is_safe
from splithouse.follows import follows, is_right, settled
from splithouse.forms import cut_tree, grown, leaves, twice
from splithouse.keeping import own_rules, part_by_part, parts_by_cover
from splithouse.keys import keys
from splithouse.sets import all_of, columns_of, is_within, sets_within, size_of, turned
from splithouse.texts import read, read_set, show_set, shown
from splithouse.unfold import can_use, unfolded, used, walked

TRUTHS = (is_within, alike, keeps, can_use, is_right, is_safe)


def lists_in(value):
    """All lists within the value, itself among them."""
    if isinstance(value, (list, tuple)):
        inner = [one for part in value for one in lists_in(part)]
        return [value] + inner if isinstance(value, list) else inner
    return []


def kinds_in(value):
    """The kinds of all that is within the value."""
    if isinstance(value, (list, tuple)):
        return {type(value)}.union(*[kinds_in(part) for part in value])
    return {type(value)}


def sample_table(source, many):
    """Rules of both kinds, some with few columns and some with many."""
    if source.randrange(2):
        return sample_rules(source, many, 8)
    return narrow_rules(source, many, source.randrange(9))


def calls(source, many):
    """Each function of the interface, with something to hand it."""
    rules, rule = sample_table(source, many), sample_rule(source, many)
    settling_rule = ("settle",) + rule[1:]
    some, part = source.randrange(2 ** many), source.randrange(2 ** many)
    one, other = sample_cut(source, many)
    book = sample_book(source, many, 5)
    names = sample_names(source, many)
    fixed, blocks, steps = PlainUnfolding(many, rules, some).run().told()
    tree = cut_tree(many, rules)
    uses = list(PlainUnfolding(many, rules, some).uses())
    told = [
        (columns_of, [some]), (is_within, [some, part]), (sets_within, [some]), (size_of, [some]),
        (turned, [some, sample_order(source, many)]), (all_of, [many]),
        (alike, [book[0], book[1], some]), (mixed, [book[0], book[1], some]), (breach, [book, rule]),
        (keeps, [book, rules]), (book_of, [many, some]), (seen_on, [book, part]),
        (put_together, [seen_on(book, one), one, seen_on(book, other), other]),
        (can_use, [rule, some]), (unfolded, [many, rules, some]), (walked, [many, rules, some, steps]),
        (follows, [many, rules, rule]), (is_right, [many, rules, rule, follows(many, rules, rule)]),
        (settled, [many, rules, some]), (cover, [many, rules]), (keys, [many, rules]),
        (cut_in_two, [many, rules, one, other]), (filled, [many, rules, [one, other, some]]),
        (is_safe, [many, rules, [one, other, some]]), (twice, [many, rules, part]), (cut_tree, [many, rules]),
        (leaves, [tree]), (grown, [book, tree]), (own_rules, [many, rules, part]),
        (part_by_part, [many, rules, [one, part, other], settling_rule]), (parts_by_cover, [many, rules]),
        (read, [shown(names, [told_rule(source, many)])]), (shown, [names, [told_rule(source, many)]]),
        (show_set, [names, some]), (read_set, [names, show_set(names, some)])]
    # The first state of an unfolding has one block or none, and the first use is at that one.
    if uses:
        told.append((used, [rules[uses[0][0]], some, [2 ** many - 1 - some], 0]))
    # Each call has lists of its own, so that a test may change them.
    return [(function, copy.deepcopy(arguments)) for function, arguments in told]


class HandedInAndTold(unittest.TestCase):
    def samples(self, seed):
        source = sample_source(seed)
        for many in range(1, 8):
            for turn in range(6):
                yield from calls(source, many)

    def test_every_function_is_asked(self):
        asked = {function.__name__ for function, arguments in self.samples(141)}
        self.assertEqual(len(asked), 36)

    def test_what_is_handed_in_stays(self):
        for function, arguments in self.samples(142):
            kept = copy.deepcopy(arguments)
            function(*arguments)
            self.assertEqual(arguments, kept, function.__name__)

    def test_no_told_list_is_one_that_was_handed_in_or_told_twice(self):
        for function, arguments in self.samples(143):
            told = lists_in([function(*arguments), function(*arguments)])
            beside = lists_in(arguments)
            for one, other in itertools.combinations(told, 2):
                self.assertIsNot(one, other, function.__name__)
            for one, other in itertools.product(told, beside):
                self.assertIsNot(one, other, function.__name__)

    def test_told_lists_that_are_changed_change_no_later_answer(self):
        for function, arguments in self.samples(144):
            kept = copy.deepcopy(arguments)
            told = function(*arguments)
            first = copy.deepcopy(told)
            for inner in lists_in(told):
                inner.clear()
                inner.append("changed")
            self.assertEqual(arguments, kept, function.__name__)
            self.assertEqual(function(*arguments), first, function.__name__)

    def test_what_is_handed_in_and_changed_later_changes_no_answer(self):
        for function, arguments in self.samples(145):
            kept = copy.deepcopy(arguments)
            told = function(*arguments)
            first = copy.deepcopy(told)
            for inner in lists_in(arguments[:]):
                inner.clear()
            self.assertEqual(told, first, function.__name__)
            self.assertEqual(function(*kept), first, function.__name__)

    def test_told_numbers_are_no_truths(self):
        for function, arguments in self.samples(146):
            told = kinds_in(function(*arguments))
            if function in TRUTHS:
                self.assertEqual(told, {bool}, function.__name__)
            else:
                self.assertLessEqual(told, {int, str, list, tuple, type(None)}, function.__name__)

    def test_the_same_again_and_in_whatever_order_it_is_asked(self):
        asked = list(self.samples(147))
        forwards = [function(*arguments) for function, arguments in asked]
        backwards = [function(*arguments) for function, arguments in asked[::-1]]
        self.assertEqual(forwards, backwards[::-1])

    def test_a_desk_keeps_nothing_of_its_text(self):
        text = "columns a b\na settle b"
        desk = Desk(text)
        names, rules = read(text)
        names.clear()
        rules.clear()
        self.assertEqual((desk.say("show"), desk.say("keys")), (text, "a"))


class SixtyRules(unittest.TestCase):
    def test_where_sixty_may_be_handed_in(self):
        source = sample_source(148)
        for many in range(1, 8):
            rules = [told_rule(source, many) for turn in range(60)]
            some, rule = source.randrange(2 ** many), sample_rule(source, many)
            fixed, blocks, steps = PlainUnfolding(many, rules, some).run().told()
            self.assertEqual(unfolded(many, rules, some), (fixed, blocks, steps))
            self.assertEqual(walked(many, rules, some, steps), (fixed, blocks))
            self.assertEqual(settled(many, rules, some), fixed)
            self.assertTrue(is_right(many, rules, rule, follows(many, rules, rule)))
            for block in blocks:
                self.assertTrue(keeps(book_of(many, block), rules))
            names = sample_names(source, many)
            self.assertEqual(shown(names, rules).count("\n"), 60)

    def test_what_cover_and_own_rules_tell_is_handed_on(self):
        source = sample_source(149)
        for many in range(1, 8):
            for turn in range(10):
                rules, rule = narrow_rules(source, many, 12), sample_rule(source, many)
                self.assertEqual(follows(many, cover(many, rules), rule)[0], follows(many, rules, rule)[0])
                own = own_rules(many, settling(rules), 2 ** many - 1)
                settling_rule = ("settle",) + rule[1:]
                self.assertEqual(settled(many, own, rule[1]), settled(many, settling(rules), rule[1]))
                self.assertTrue(is_right(many, own, settling_rule, follows(many, own, settling_rule)))


class Promise(unittest.TestCase):
    def tables(self, seed, turns=12, most=7):
        source = sample_source(seed)
        for many in range(1, most + 1):
            for turn in range(turns):
                yield source, many, sample_table(source, many)

    def kept_book(self, source, many, rules):
        """A book that keeps the rules."""
        book = keeping_book(sample_book(source, many, 3 if many < 6 else 2, (0, 1, 2)), rules)
        self.assertTrue(keeps(book, rules))
        return book

    def broken_by(self, many, rules, rule, block):
        """The book of the block keeps the rules and breaks the one."""
        book = book_of(many, block)
        self.assertEqual(book, plain_book(many, block))
        self.assertTrue(plain_keeps(book, rules) and keeps(book, rules))
        self.assertIn(breach(book, rule), plain_breaches(book, rule))

    def test_what_follows_and_what_does_not(self):
        seen = {"yes": 0, "no": 0}
        for source, many, rules in self.tables(151):
            book = self.kept_book(source, many, rules)
            for turn in range(6):
                rule = sample_rule(source, many)
                word, told = follows(many, rules, rule)
                seen[word] += 1
                self.assertTrue(is_right(many, rules, rule, (word, told)))
                if word == "no":
                    self.broken_by(many, rules, rule, told)
                    continue
                self.assertEqual(plain_breaches(book, rule), [])
                now = PlainUnfolding(many, rules, rule[1])
                for k, block in told:
                    at = now.state()[1].index(block)
                    self.assertIn((k, at), list(now.uses()))
                    now.use(k, at)
        self.assertGreater(min(seen.values()), 50)

    def test_least_rules(self):
        for source, many, rules in self.tables(152):
            least = cover(many, rules)
            for rule in rules:
                self.assertEqual(follows(many, least, rule)[0], "yes")
            for at, rule in enumerate(least):
                self.assertEqual(follows(many, rules, rule)[0], "yes")
                others = least[:at] + least[at + 1:]
                word, block = follows(many, others, rule)
                self.assertEqual(word, "no")
                self.broken_by(many, others, rule, block)
                for k in columns(rule[1]) if rule[0] == "settle" else ():
                    shorter = ("settle", rule[1] - 2 ** k, rule[2])
                    word, block = follows(many, rules, shorter)
                    self.assertEqual(word, "no")
                    self.broken_by(many, rules, shorter, block)

    def test_safe_and_unsafe_cuts(self):
        seen = {"safe": 0, "unsafe": 0}
        for source, many, rules in self.tables(153):
            book = self.kept_book(source, many, rules)
            for turn in range(6):
                one, other = sample_cut(source, many)
                word, told = cut_in_two(many, rules, one, other)
                seen[word] += 1
                if word == "safe":
                    self.assertEqual(put_together(seen_on(book, one), one, seen_on(book, other), other), book)
                else:
                    shown_by = book_of(many, told)
                    self.assertTrue(plain_keeps(shown_by, rules))
                    self.assertGreater(len(put_again(shown_by, [one, other])), len(shown_by))
        self.assertGreater(min(seen.values()), 50)

    def test_cuts_in_several_parts(self):
        seen = {True: 0, False: 0}
        for source, many, rules in self.tables(154):
            rules = settling(rules)
            parts = list(sample_cut(source, many)) + [source.randrange(2 ** many)]
            safe = is_safe(many, rules, parts)
            seen[safe] += 1
            book = self.kept_book(source, many, rules) if safe else filled(many, rules, parts)[0]
            self.assertTrue(keeps(book, rules))
            self.assertEqual(set(put_again(book, parts)) == set(book), safe)
        self.assertGreater(min(seen.values()), 15)

    def test_trees_of_cuts(self):
        cuts = 0
        for source, many, rules in self.tables(155):
            tree = cut_tree(many, rules)
            book = self.kept_book(source, many, rules)
            self.assertEqual(grown(book, tree), book)
            cuts += tree[0] == "cut"
            for part in leaves(tree):
                self.assertIsNone(twice(many, rules, part))
                for some in sets_within(part):
                    fixed, blocks, steps = unfolded(many, rules, some)
                    if not is_within(part, fixed):
                        self.assertEqual(fixed & part, some)
                        self.assertEqual(len([block for block in blocks if block & part]), 1)
        self.assertGreater(cuts, 20)

    def test_a_part_that_is_cut_tells_something_twice(self):
        # A book that keeps the rules has, seen on the part, two rows with the same at the set and what it tells again.
        shown_by = 0
        for source, many, rules in self.tables(156):
            for part in range(1, 2 ** many, 5):
                found = twice(many, rules, part)
                if found is not None:
                    some, again = found
                    blocks = unfolded(many, rules, some)[1]
                    block = next(one for one in blocks if one & part and not one & (some | again))
                    self.assertTrue(plain_keeps(plain_book(many, block), rules))
                    one, other = plain_seen(plain_book(many, block), part)
                    self.assertTrue(plain_alike(one, other, some | again))
                    shown_by += 1
        self.assertGreater(shown_by, 50)

    def test_rules_part_by_part(self):
        seen = {"yes": 0, "no": 0}
        for source, many, rules in self.tables(157, turns=20):
            parts = leaves(cut_tree(many, rules)) if source.randrange(2) else list(sample_cut(source, many))
            rule = ("settle",) + sample_rule(source, many)[1:]
            own = [(part, own_rules(many, rules, part)) for part in parts]
            word, told = part_by_part(many, rules, parts, rule)
            seen[word] += 1
            if word == "no":
                together = [one for part, ones in own for one in ones]
                self.broken_by(many, together, rule, 2 ** many - 1 - told)
                continue
            for turn in range(4):
                book = sample_book(source, many, 2)
                if all(plain_keeps(plain_seen(book, part), ones) for part, ones in own):
                    self.assertEqual(plain_breaches(book, rule), [])
        self.assertGreater(min(seen.values()), 20)

    def test_parts_by_the_cover(self):
        for source, many, rules in self.tables(158):
            parts = parts_by_cover(many, rules)
            self.assertTrue(is_safe(many, rules, parts))
            for rule in settling(rules):
                self.assertEqual(part_by_part(many, settling(rules), parts, rule)[0], "yes")
            book = self.kept_book(source, many, settling(rules))
            self.assertEqual(put_again(book, parts), book)

    def test_a_desk_says_the_same(self):
        for source, many, rules in self.tables(159, turns=4):
            rules = [(word, left, right) for word, left, right in rules if right]
            names = sample_names(source, many)
            desk = Desk(shown(names, rules))
            self.assertEqual(desk.say("show"), shown(names, rules))
            for row, sets in (("keys", keys(many, rules)), ("tree", leaves(cut_tree(many, rules))),
                              ("parts", parts_by_cover(many, rules))):
                self.assertEqual([read_set(names, word) for word in desk.say(row).split(" ")], sets)


class OtherOrder(unittest.TestCase):
    def test_columns_put_in_another_order(self):
        source = sample_source(160)
        for many in range(1, 8):
            for turn in range(10):
                rules, order = sample_table(source, many), sample_order(source, many)
                there, rule = turned_rules(rules, order), sample_rule(source, many)
                some, part = source.randrange(2 ** many), source.randrange(2 ** many)
                fixed, blocks, steps = unfolded(many, rules, some)
                wanted = (turned(fixed, order), [turned(block, order) for block in blocks],
                          [(k, turned(block, order)) for k, block in steps])
                self.assertEqual(unfolded(many, there, turned(some, order)), wanted)
                self.assertEqual(follows(many, there, turned_rules([rule], order)[0])[0], follows(many, rules, rule)[0])
                self.assertEqual(sorted(keys(many, there)), sorted(turned(key, order) for key in keys(many, rules)))
                self.assertEqual(sorted(own_rules(many, there, turned(part, order))),
                                 sorted(turned_rules(own_rules(many, rules, part), order)))
                self.assertEqual(twice(many, there, turned(part, order)) is None, twice(many, rules, part) is None)

    def test_the_order_of_the_rules(self):
        source = sample_source(161)
        for many in range(1, 8):
            for turn in range(10):
                rules, part = sample_table(source, many), source.randrange(2 ** many)
                back, rule = rules[::-1], ("settle",) + sample_rule(source, many)[1:]
                self.assertEqual(keys(many, back), keys(many, rules))
                self.assertEqual(own_rules(many, back, part), own_rules(many, rules, part))
                self.assertEqual(part_by_part(many, back, [part], rule), part_by_part(many, rules, [part], rule))


if __name__ == "__main__":
    unittest.main()
