"""The whole interface: each name in its module, with its arguments, and no class under another but as told."""

import importlib
import inspect
import unittest

FUNCTIONS = {
    "marks": {"spread": ["thing"], "unspread": ["number"], "mark": ["thing"]},
    "frequent": {"poured_frequent": ["one", "other"]},
    "rungs": {"poured_rungs": ["one", "other"]},
    "window": {"followed": ["one", "other"], "most_boxes": ["room", "total"]},
    "distinct": {"poured_distinct": ["one", "other"]},
    "balance": {"poured_balance": ["one", "other"], "due_sums": ["span"], "root": ["number"]},
    "keepsake": {"poured": ["one", "other"], "empty_like": ["keepsake"]},
    "notes": {"written": ["keepsake"]},
    "notereader": {"read_keepsake": ["text"]},
    "shelf": {"cover": ["first", "last"]},
    "answers": {"answers": ["text"], "plainly": ["text"]},
}
ROW = ["thing", "weight"]
CLASSES = {
    ("frequent", "Frequent"): (["room"], ["room", "total", "lost", "counts"], {
        "add": ROW, "low": ["thing"], "high": ["thing"], "often": ["part", "whole"]}),
    ("rungs", "Rungs"): (["room"], ["room", "total", "over", "under", "turns", "least", "most", "rungs"], {
        "add": ROW, "near": ["thing"], "rank": ["thing"], "by_rank": ["k"]}),
    ("window", "Window"): (["room", "reach"], ["room", "reach", "clock", "boxes"], {
        "add": ["weight"], "idle": ["many"], "last": ["many"]}),
    ("distinct", "Distinct"): (["room"], ["room", "arrivals", "level", "kept"], {
        "add": ["thing"], "exact": [], "bounds": []}),
    ("balance", "Balance"): (["span"], ["span", "sums"], {"put": ROW, "take": ROW, "off": []}),
    ("keepsake", "Keepsake"): (
        ["room", "reach", "span"],
        ["room", "reach", "span", "came", "went", "up", "down", "window", "seen", "balance"],
        {
            "put": ROW, "take": ROW, "idle": ["many"], "net": ["thing"], "ranked": ["thing"],
            "often": ["part", "whole"], "by_rank": ["k"], "last": ["many"], "distinct": [], "off": [],
        }),
    ("shelf", "Shelf"): (["room", "reach", "span"], ["room", "reach", "span", "many"], {
        "lay": ["keepsake"], "between": ["first", "last"]}),
    ("plain", "Plain"): ([], [], {
        "put": ROW, "take": ROW, "idle": ["many"], "net": ["thing"], "ranked": ["thing"], "all_put": [],
        "often": ["part", "whole"], "by_rank": ["k"], "last": ["many"], "distinct": [], "off": ["span"],
    }),
}
HANDED = {"room": 4, "reach": 10, "span": 5}


def named(module, name):
    return getattr(importlib.import_module("sketchbounds." + module), name)


def arguments(call):
    return list(inspect.signature(call).parameters)


class InterfaceTest(unittest.TestCase):
    def test_functions(self):
        for module, functions in FUNCTIONS.items():
            for name, expected in functions.items():
                self.assertEqual(arguments(named(module, name)), expected, name)

    def test_classes(self):
        for (module, name), (made_of, fields, methods) in CLASSES.items():
            kind = named(module, name)
            self.assertEqual(arguments(kind), made_of, name)
            made = kind(*[HANDED[each] for each in made_of])
            for field in fields:
                self.assertIn(field, vars(made), name)
            for each in made_of:
                self.assertEqual(getattr(made, each), HANDED[each], name)
            for method, expected in methods.items():
                self.assertEqual(arguments(getattr(made, method)), expected, (name, method))

    def test_whole_numbers(self):
        self.assertEqual((named("marks", "MOST"), named("marks", "SPREAD")), (2 ** 60, 770093176312745717))

    def test_no_class_stands_under_another(self):
        for module, name in CLASSES:
            self.assertEqual(named(module, name).__bases__, (object,), name)


if __name__ == "__main__":
    unittest.main()
