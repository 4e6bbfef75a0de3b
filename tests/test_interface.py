"""The interface: each name with its arguments, as the document lists them."""

import importlib
import inspect
import unittest

from splithouse.desk import Desk

ARGUMENTS = {
    "splithouse.sets": {
        "columns_of": ["some"],
        "is_within": ["one", "other"],
        "sets_within": ["some"],
        "size_of": ["some"],
        "turned": ["some", "order"],
        "all_of": ["many"],
    },
    "splithouse.books": {
        "alike": ["one", "other", "some"],
        "mixed": ["one", "other", "some"],
        "breach": ["book", "rule"],
        "keeps": ["book", "rules"],
        "book_of": ["many", "some"],
        "seen_on": ["book", "part"],
        "put_together": ["one", "part", "other", "beside"],
    },
    "splithouse.unfold": {
        "can_use": ["rule", "block"],
        "used": ["rule", "fixed", "blocks", "at"],
        "unfolded": ["many", "rules", "some"],
        "walked": ["many", "rules", "some", "steps"],
    },
    "splithouse.follows": {
        "follows": ["many", "rules", "rule"],
        "is_right": ["many", "rules", "rule", "paper"],
        "settled": ["many", "rules", "some"],
    },
    "splithouse.covers": {
        "cover": ["many", "rules"],
    },
    "splithouse.keys": {
        "keys": ["many", "rules"],
    },
    "splithouse.cuts": {
        "cut_in_two": ["many", "rules", "one", "other"],
    },
    "splithouse.filled": {
        "filled": ["many", "rules", "parts"],
        "is_safe": ["many", "rules", "parts"],
    },
    "splithouse.forms": {
        "twice": ["many", "rules", "part"],
        "cut_tree": ["many", "rules"],
        "leaves": ["tree"],
        "grown": ["book", "tree"],
    },
    "splithouse.keeping": {
        "own_rules": ["many", "rules", "part"],
        "part_by_part": ["many", "rules", "parts", "rule"],
        "parts_by_cover": ["many", "rules"],
    },
    "splithouse.texts": {
        "read": ["text"],
        "shown": ["names", "rules"],
        "show_set": ["names", "some"],
        "read_set": ["names", "text"],
    },
    "splithouse.desk": {
        "Desk": ["text"],
    },
}


class Interface(unittest.TestCase):
    def test_arguments(self):
        for module, functions in ARGUMENTS.items():
            for name, arguments in functions.items():
                told = getattr(importlib.import_module(module), name)
                self.assertEqual(list(inspect.signature(told).parameters), arguments, name)

    def test_the_desk(self):
        self.assertTrue(inspect.isclass(Desk))
        self.assertEqual(list(inspect.signature(Desk("columns a").say).parameters), ["row"])
        self.assertEqual(Desk(text="columns a").say(row="show"), "columns a")


if __name__ == "__main__":
    unittest.main()
