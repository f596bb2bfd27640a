"""Each file keeps the names that the interface lists for it."""

import importlib
import inspect
import unittest

FUNCTIONS = {
    "kinds": ["is_integer(thing)", "is_number(thing)", "is_quotient(thing)", "is_lists(thing)", "is_kind(lists, thing)",
              "is_lot(lists, thing)", "is_sheet(thing)", "is_stock(thing)", "is_kinds(lists, thing)"],
    "listchecker": ["lets_lists(thing)"],
    "lotchecker": ["lets_lot(lists, thing)"],
    "quotients": ["plus(one, other)", "minus(one, other)", "times(one, other)", "is_less(one, other)", "whole_of(one)"],
    "kindsets": ["crosses(one, other)", "holds(one, other)", "first_crossing(kinds)", "least_of(kinds)",
                 "is_closed(lists, kinds)", "closed_from(lists, kinds)"],
    "listforms": ["turned_lists(lists)", "turned_lot(lists, lot)", "turned_stock(stock)", "turned_kinds(lists, kinds)",
                  "cut_lists(lists, wide, high)", "cut_to_lot(lists, lot)", "used_lists(lists, lot)"],
    "lots": ["lot_of(lists, pieces)", "count_in(lists, lot, a, b)", "lot_plus(lists, lot, other)",
             "lot_minus(lists, lot, other)", "lot_times(lists, lot, many)", "pieces_in(lists, lot)",
             "area_of(lists, lot)", "split_kind(lists, lot, kind, lesser, many)"],
    "stocks": ["sheets_in(stock)", "settled_stock(stock)", "stock_plus(stock, other)", "stock_minus(stock, other)",
               "first_sheets_of(stock, many)"],
    "texts": ["lists_line(lists)", "lot_line(lists, lot)", "stock_line(stock)"],
    "textreadings": ["read_lists(text)", "read_lot(lists, text)", "read_stock(text)"],
    "wholes": ["useful_width(lists, sheet)", "useful_height(lists, sheet)", "is_whole_across(lists, sheet)",
               "is_whole_up(lists, sheet)", "whole_ways(lists, sheet)", "is_whole_stock(lists, stock)",
               "is_whole_for(lists, sheet, lot)"],
}

CLASSES = {
    "errors": {
        "SheetError": [], "PaperError": [], "LayError": [], "LiveError": [], "TextError": [],
        "InvalidPaper": ["__init__(self, word, at)"], "NotUsable": ["__init__(self, word, at)"],
        "Refused": ["__init__(self, staircase)"], "NotWhole": ["__init__(self, index)"],
        "Unfit": ["__init__(self, kind)"], "NoRule": ["__init__(self, kinds)"],
        "InvalidEvent": ["__init__(self, event, reason)"], "NothingToUndo": ["__init__(self, many)"],
        "InvalidText": ["__init__(self, line, field)"], "InvalidRow": ["__init__(self, row)"]},
    "lotclasses": {
        "Lot": ["__init__(self, lists, lot)", "__add__(self, other)", "__sub__(self, other)", "__eq__(self, other)",
                "__contains__(self, thing)", "__len__(self)", "area(self)", "pieces(self)", "times(self, many)",
                "split(self, kind, lesser, many)", "entries(self)"]},
}


def module_of(name):
    return importlib.import_module("onesheetmore." + name)


def shown(name, function):
    return name + str(inspect.signature(function))


class InterfaceTest(unittest.TestCase):
    def test_functions(self):
        for file, lines in FUNCTIONS.items():
            module = module_of(file)
            for line in lines:
                name = line.partition("(")[0]
                function = getattr(module, name)
                self.assertTrue(inspect.isfunction(function), line)
                self.assertEqual(function.__module__, module.__name__)
                self.assertEqual(function.__name__, name)
                self.assertEqual(shown(name, function), line)

    def test_classes(self):
        for file, classes in CLASSES.items():
            module = module_of(file)
            for name, lines in classes.items():
                owner = getattr(module, name)
                self.assertTrue(inspect.isclass(owner), name)
                self.assertEqual(owner.__module__, module.__name__)
                self.assertEqual(owner.__name__, name)
                for line in lines:
                    method = line.partition("(")[0]
                    self.assertIn(method, vars(owner), (name, line))
                    self.assertEqual(shown(method, vars(owner)[method]), line)


if __name__ == "__main__":
    unittest.main()
