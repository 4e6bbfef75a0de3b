"""Points 2, 16 and 17: the cover of rules."""

import unittest

from samples import columns, plain_follows, sample_rules, sample_source
from splithouse.covers import cover
from splithouse.follows import follows


def plain_cover(many, rules):
    """Point 16, with what follows told by the books of sets."""
    told = [("settle", left, 2 ** k) for word, left, right in rules if word == "settle"
            for k in sorted(columns(right) - columns(left))]
    told += [rule for rule in rules if rule[0] == "deal"]
    for at, (word, left, right) in enumerate(list(told)):
        for k in sorted(columns(left)) if word == "settle" else []:
            shorter = (word, told[at][1] - 2 ** k, right)
            if plain_follows(many, told, shorter):
                told[at] = shorter
    there = dict(enumerate(told))
    for at, rule in enumerate(told):
        if plain_follows(many, [there[k] for k in there if k != at], rule):
            del there[at]
    return list(there.values())


class Cover(unittest.TestCase):
    def test_no_rules(self):
        for many in range(1, 8):
            self.assertEqual(cover(many, []), [])

    def test_several_columns_at_the_right(self):
        self.assertEqual(cover(4, [("settle", 1, 14)]), [("settle", 1, 2), ("settle", 1, 4), ("settle", 1, 8)])
        self.assertEqual(cover(4, [("settle", 2, 9), ("settle", 1, 4)]),
                         [("settle", 2, 1), ("settle", 2, 8), ("settle", 1, 4)])

    def test_a_right_that_its_left_has(self):
        self.assertEqual(cover(3, [("settle", 3, 1)]), [])
        self.assertEqual(cover(3, [("settle", 3, 3), ("settle", 7, 7), ("settle", 5, 0)]), [])
        self.assertEqual(cover(3, [("settle", 3, 6)]), [("settle", 3, 4)])

    def test_the_same_rule_twice(self):
        self.assertEqual(cover(3, [("settle", 1, 2)] * 2), [("settle", 1, 2)])
        self.assertEqual(cover(4, [("deal", 1, 2)] * 3), [("deal", 1, 2)])
        rules = [("settle", 1, 2), ("settle", 4, 1), ("settle", 1, 2)]
        self.assertEqual(cover(3, rules), [("settle", 4, 1), ("settle", 1, 2)])

    def test_a_left_with_a_column_too_much(self):
        self.assertEqual(cover(3, [("settle", 1, 2), ("settle", 3, 4)]), [("settle", 1, 2), ("settle", 1, 4)])
        self.assertEqual(cover(3, [("settle", 3, 4), ("settle", 1, 2)]), [("settle", 1, 4), ("settle", 1, 2)])
        self.assertEqual(cover(3, [("settle", 0, 1), ("settle", 3, 4)]), [("settle", 0, 1), ("settle", 2, 4)])
        self.assertEqual(cover(3, [("settle", 0, 3), ("settle", 3, 4)]),
                         [("settle", 0, 1), ("settle", 0, 2), ("settle", 0, 4)])

    def test_columns_are_left_out_rising(self):
        rules = [("settle", 1, 2), ("settle", 2, 1), ("settle", 3, 4)]
        self.assertEqual(cover(3, rules), [("settle", 1, 2), ("settle", 2, 1), ("settle", 2, 4)])
        rules = [("settle", 1, 2), ("settle", 2, 5), ("settle", 4, 1), ("settle", 7, 8)]
        self.assertEqual(cover(4, rules), [("settle", 1, 2), ("settle", 2, 4), ("settle", 4, 1), ("settle", 4, 8)])

    def test_a_dealing_rule_may_make_a_left_shorter(self):
        self.assertEqual(cover(4, [("settle", 3, 8), ("deal", 1, 2)]), [("settle", 1, 8), ("deal", 1, 2)])

    def test_a_left_made_shorter_may_leave_the_same_rule_twice(self):
        rules = [("settle", 5, 8), ("settle", 4, 8), ("deal", 1, 4)]
        self.assertEqual(cover(4, rules), [("settle", 4, 8), ("deal", 1, 4)])

    def test_a_rule_that_follows_from_the_others(self):
        rules = [("settle", 1, 2), ("settle", 2, 4), ("settle", 1, 4)]
        self.assertEqual(cover(3, rules), rules[:2])
        self.assertEqual(cover(3, rules[::-1]), [("settle", 2, 4), ("settle", 1, 2)])

    def test_rules_are_left_out_from_the_first_on(self):
        rules = [("settle", 1, 2), ("settle", 1, 4), ("settle", 2, 4), ("settle", 4, 2)]
        self.assertEqual(cover(3, rules), rules[1:])
        self.assertEqual(cover(3, [rules[1], rules[0]] + rules[2:]), [rules[0]] + rules[2:])

    def test_dealing_rules_stand_behind_the_settling_ones(self):
        rules = [("deal", 1, 2), ("settle", 1, 4), ("deal", 8, 1), ("settle", 2, 16)]
        self.assertEqual(cover(5, rules), [("settle", 1, 4), ("settle", 2, 16), ("deal", 1, 2), ("deal", 8, 1)])

    def test_dealing_rules_are_left_out_where_they_follow(self):
        self.assertEqual(cover(3, [("deal", 1, 2), ("settle", 1, 4)]), [("settle", 1, 4)])
        self.assertEqual(cover(3, [("deal", 1, 2), ("deal", 1, 4)]), [("deal", 1, 4)])
        self.assertEqual(cover(3, [("deal", 1, 6), ("deal", 1, 0), ("deal", 1, 1), ("deal", 7, 2)]), [])

    def test_dealing_rules_stay_as_they_are_told(self):
        rules = [("deal", 3, 13), ("settle", 1, 2)]
        self.assertEqual(follows(5, rules, ("deal", 1, 12))[0], "yes")
        self.assertEqual(cover(5, rules), [("settle", 1, 2), ("deal", 3, 13)])

    def test_one_column(self):
        self.assertEqual(cover(1, [("settle", 0, 1), ("settle", 1, 1), ("deal", 0, 1)]), [("settle", 0, 1)])

    def test_as_the_words_of_the_document_say(self):
        source = sample_source(31)
        for many, turns in ((1, 20), (2, 40), (3, 60), (4, 40), (5, 20), (6, 10)):
            for turn in range(turns):
                rules = sample_rules(source, many, 6)
                self.assertEqual(cover(many, rules), plain_cover(many, rules), (many, rules))

    def test_twelve_rules_of_seven_columns(self):
        rules = [("settle", 7, 120), ("deal", 1, 6), ("settle", 56, 71), ("settle", 14, 113), ("deal", 64, 3),
                 ("settle", 28, 99), ("settle", 96, 31), ("deal", 0, 9), ("settle", 73, 54), ("settle", 21, 106),
                 ("settle", 67, 60), ("deal", 5, 88)]
        self.assertEqual(cover(7, rules), plain_cover(7, rules))
        self.check(7, rules)

    def test_it_says_the_same_and_nothing_of_it_can_go(self):
        source = sample_source(32)
        for many in range(1, 8):
            for turn in range(25):
                self.check(many, sample_rules(source, many, 12))

    def check(self, many, rules):
        told = cover(many, rules)
        self.assertIs(type(told), list)
        for rule in rules:
            self.assertEqual(follows(many, told, rule)[0], "yes")
        for at, rule in enumerate(told):
            self.assertEqual([type(part) for part in rule], [str, int, int])
            self.assertEqual(follows(many, rules, rule)[0], "yes")
            self.assertEqual(follows(many, told[:at] + told[at + 1:], rule)[0], "no")
            for k in columns(rule[1]) if rule[0] == "settle" else []:
                self.assertEqual(follows(many, told, ("settle", rule[1] - 2 ** k, rule[2]))[0], "no")

    def test_a_cover_handed_on(self):
        rules = [("settle", 2 ** k, 127) for k in range(7)] + [("deal", 0, 2 ** k) for k in range(5)]
        told = cover(7, rules)
        self.assertEqual(cover(7, told), told)
        self.assertEqual(follows(7, told, ("settle", 64, 127))[0], "yes")

    def test_what_is_handed_in_stays_and_the_told_list_is_new(self):
        rules = [("deal", 1, 2), ("settle", 1, 4), ("settle", 8, 7)]
        kept = list(rules)
        told = cover(5, rules)
        wanted = list(told)
        self.assertEqual(rules, kept)
        told.clear()
        self.assertEqual(cover(5, rules), wanted)
        self.assertEqual(rules, kept)
        single = [("settle", 1, 2)]
        cover(5, single).append(("settle", 2, 1))
        self.assertEqual(single, [("settle", 1, 2)])
        deals = [("deal", 1, 2)]
        cover(5, deals).append(("settle", 2, 1))
        self.assertEqual(deals, [("deal", 1, 2)])
        cover(5, []).append(("settle", 2, 1))
        self.assertEqual(cover(5, []), [])
        rules.clear()
        self.assertEqual(cover(5, rules), [])
        self.assertEqual(cover(5, kept), wanted)


if __name__ == "__main__":
    unittest.main()
