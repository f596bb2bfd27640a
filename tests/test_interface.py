"""Each file keeps the names that the interface lists for it."""

import importlib
import inspect
import unittest

FUNCTIONS = {
    "kinds": ["is_integer(thing)", "is_number(thing)", "is_quotient(thing)", "is_lists(thing)", "is_kind(lists, thing)",
              "is_lot(lists, thing)", "is_sheet(thing)", "is_stock(thing)", "is_kinds(lists, thing)"],
    "listchecker": ["lets_lists(thing)"],
    "lotchecker": ["lets_lot(lists, thing)"],
    "quotients": ["plus(one, other)", "minus(one, other)", "times(one, other)", "is_less(one, other)", "whole_of(one)"],
    "kindsets": ["crosses(one, other)", "holds(one, other)", "first_crossing(kinds)", "least_of(kinds)",
                 "is_closed(lists, kinds)", "closed_from(lists, kinds)"],
    "listforms": ["turned_lists(lists)", "turned_lot(lists, lot)", "turned_stock(stock)", "turned_kinds(lists, kinds)",
                  "cut_lists(lists, wide, high)", "cut_to_lot(lists, lot)", "used_lists(lists, lot)"],
    "lots": ["lot_of(lists, pieces)", "count_in(lists, lot, a, b)", "lot_plus(lists, lot, other)",
             "lot_minus(lists, lot, other)", "lot_times(lists, lot, many)", "pieces_in(lists, lot)",
             "area_of(lists, lot)", "split_kind(lists, lot, kind, lesser, many)"],
    "stocks": ["sheets_in(stock)", "settled_stock(stock)", "stock_plus(stock, other)", "stock_minus(stock, other)",
               "first_sheets_of(stock, many)"],
    "texts": ["lists_line(lists)", "lot_line(lists, lot)", "stock_line(stock)"],
    "textreadings": ["read_lists(text)", "read_lot(lists, text)", "read_stock(text)"],
    "wholes": ["useful_width(lists, sheet)", "useful_height(lists, sheet)", "is_whole_across(lists, sheet)",
               "is_whole_up(lists, sheet)", "whole_ways(lists, sheet)", "is_whole_stock(lists, stock)",
               "is_whole_for(lists, sheet, lot)"],
    "shares": ["share_count(lists, sheet, a, b)", "columns_in(lists, width)", "bands_in(lists, height)",
               "top_shares(lists, sheet)", "stock_shares(lists, stock, a, b)"],
    "sharespots": ["ground_of(lists, a, b, column, row)", "is_share(lists, sheet, a, b, column, row)",
                   "share_over(lists, kind, column, row, wide, high)",
                   "share_under(lists, kind, column, row, wide, high)",
                   "top_over(lists, sheet, a, b, column, row)"],
    "numbering": ["share_number(lists, sheet, a, b, column, row)", "share_by_number(lists, sheet, a, b, number)"],
    "boxes": ["is_box(lists, stock, thing)", "box_count(lists, stock, box)", "box_ground(lists, stock, box)",
              "boxes_meet(lists, stock, box, other)", "box_first(lists, stock, box, many)",
              "box_finer(lists, stock, box, a, b)"],
    "stockboxes": ["whole_boxes(lists, stock)"],
    "wheels": ["wheel_lot(lists, sheet)", "wheel_spread(lists, sheet)", "wheel_refusal(lists, sheet)"],
    "rooms": ["rooms_by_heights(lists, stock, lot)", "rooms_by_widths(lists, stock, lot)"],
    "staircases": ["is_staircase(lists, thing)", "staircases_of(lists, way)", "counted_by(lists, staircase)",
                   "staircase_of(lists, kinds, way)", "other_way(lists, staircase)", "own_sizes(lists, staircase)"],
    "readings": ["reading(lists, stock, lot, staircase)", "refuses(lists, stock, lot, staircase)"],
    "verdicts": ["goes_in(lists, stock, lot)", "refusal(lists, stock, lot)", "refusal_by_widths(lists, stock, lot)",
                 "tells_no(lists, stock, lot, staircase)", "telling_no(lists, stock, lot)",
                 "verdict(lists, stock, lot)"],
    "refusalchecker": ["lets_refusal(lists, stock, lot, thing)"],
    "further": ["most_more(lists, stock, lot, a, b)", "leading_sheets(lists, stock, lot)",
                "spare_sheets(lists, stock, lot)"],
    "layings": ["lay_by_heights(lists, stock, lot)", "lay_by_widths(lists, stock, lot)"],
    "layingchecker": ["lets_laying(lists, stock, thing)"],
    "lookups": ["laying_lot(lists, stock, laying)", "nth_piece(lists, stock, laying, kind, number)",
                "piece_number(lists, stock, laying, kind, share)", "piece_at(lists, stock, laying, sort, sheet, x, y)"],
    "rests": ["rests_of(lists, stock, laying)", "free_shares(lists, stock, laying, a, b)",
              "used_sheets(lists, stock, laying)"],
    "sheetlayings": ["on_sheet(lists, stock, laying, sort, sheet)", "like_sheets(lists, stock, laying)"],
    "layingforms": ["turned_laying(lists, stock, laying)", "exchanged(lists, stock, laying, sort, one, other)"],
    "layingtexts": ["laying_line(lists, stock, laying)"],
    "layingreadings": ["read_laying(lists, stock, text)"],
    "spreadkinds": ["is_piece(lists, thing)", "is_spread(lists, thing)"],
    "spreadchecker": ["lets_spread(lists, stock, thing)"],
    "overlaps": ["first_overlap(lists, spread)", "overlaps_of(lists, spread)"],
    "pushing": ["pushed_left(lists, spread)", "pushed_down(lists, spread)", "pushed(lists, spread)"],
    "spreadlines": ["met_by(lists, stock, spread, sort, sheet, y)", "gaps_on(lists, stock, spread, sort, sheet, y, b)",
                    "class_gaps(lists, stock, spread, sort, sheet, y, b, rest)"],
    "anew": ["laid_anew(lists, stock, spread)", "spread_of(lists, stock, laying)"],
    "openings": ["free_place(lists, stock, spread, a, b)", "clear_across(lists, stock, spread, sort, sheet)",
                 "clear_up(lists, stock, spread, sort, sheet)"],
    "spreadtexts": ["spread_line(lists, spread)"],
    "spreadreadings": ["read_spread(lists, text)"],
    "roundings": ["rounding(lists, lot, staircase)", "sheets_by(lists, lot, sheet, staircase)",
                  "roll_by(lists, lot, width, staircase)"],
    "fewest": ["fewest(lists, lot, sheet)", "fewest_in_shares(lists, lot, sheet)",
               "telling_staircase(lists, lot, sheet)"],
    "rolls": ["least_roll(lists, lot, width)", "roll_staircase(lists, lot, width)"],
    "areas": ["area_sheets(lists, lot, sheet)", "is_one_more(lists, lot, sheet)", "blocks_in(lists, sheet)",
              "fewest_blocks(lists, lot)", "tells_at_once(lists, lot)"],
    "chains": ["tells_by_area(lists, kinds)", "dear_lot(lists, sheet, sheets, y, z)"],
    "copies": ["blocks_for(lists, lot, many)", "copies_period(lists)", "copies_for(lists, lot, sheet, many)",
               "most_copies(lists, lot, sheet, sheets)", "first_one_more(lists, lot, limit)"],
    "countpapers": ["fewest_paper(lists, lot, sheet)"],
    "countchecker": ["lets_fewest(lists, lot, sheet, thing)"],
    "overs": ["crosses_over(x, y, z)", "first_over(lists, kinds)", "has_rule(lists, kinds)"],
    "forks": ["fork_of(lists, kinds)", "sides_of(lists, kinds)"],
    "grounds": ["own_ground(lists, stock, kinds)"],
    "foes": ["foe_of(lists, kinds)", "foe_asks(lists, foe, spread)"],
    "diaries": ["is_diary(lists, thing)", "diary_lot(lists, diary)", "diary_spread(lists, diary)",
                "needless(lists, stock, diary)", "had_place(lists, stock, diary)"],
    "diarychecker": ["lets_diary(lists, stock, thing)"],
    "diarytexts": ["diary_text(lists, diary)"],
    "diaryreadings": ["read_diary(lists, text)"],
    "plans": ["is_plan(thing)", "cuts_in(plan)", "parts_of(lists, sheet, plan)",
              "plan_of(lists, stock, laying, sort, sheet)"],
    "planchecker": ["lets_plan(lists, sheet, thing)"],
    "offcuts": ["offcuts_of(lists, stock, laying)", "scraps_of(lists, stock, laying)"],
    "deskevents": ["is_event(thing)", "is_log(thing)"],
    "replaying": ["replayed(lists, stock, log)"],
    "desktexts": ["event_line(event)", "log_text(log)"],
    "deskreadings": ["read_event(text)", "read_log(text)"],
    "deskpapers": ["report(desk)"],
    "chainrooms": ["chain_rooms(lists, stock, lot)", "chain_goes(lists, stock, lot)", "chain_sheets(lists, lot, sheet)"],
    "linerooms": ["line_rooms(lists, sheet, lot, many, way)", "line_refusal(lists, sheet, lot, many)",
                  "fewest_by_lines(lists, lot, sheet)"],
    "linechecker": ["lets_line_refusal(lists, sheet, lot, many, thing)"],
    "twosizes": ["two_counts(lists, sheet, lot)", "two_goes(lists, sheet, lot)", "two_spread(lists, sheet, lot)",
                 "wheel_helps(lists, sheet, lot)"],
    "answers": ["answer(lists, stock, lot)"],
}

CLASSES = {
    "errors": {
        "SheetError": [], "PaperError": [], "LayError": [], "LiveError": [], "TextError": [],
        "InvalidPaper": ["__init__(self, word, at)"], "NotUsable": ["__init__(self, word, at)"],
        "Refused": ["__init__(self, staircase)"], "NotWhole": ["__init__(self, index)"],
        "Unfit": ["__init__(self, kind)"], "NoRule": ["__init__(self, kinds)"],
        "InvalidEvent": ["__init__(self, event, reason)"], "NothingToUndo": ["__init__(self, many)"],
        "InvalidText": ["__init__(self, line, field)"], "InvalidRow": ["__init__(self, row)"]},
    "lotclasses": {
        "Lot": ["__init__(self, lists, lot)", "__add__(self, other)", "__sub__(self, other)", "__eq__(self, other)",
                "__contains__(self, thing)", "__len__(self)", "area(self)", "pieces(self)", "times(self, many)",
                "split(self, kind, lesser, many)", "entries(self)"]},
    "shareclasses": {
        "Shares": ["__init__(self, lists, sheet)", "ways(self)", "useful(self)", "top(self)", "wheel(self)",
                   "count(self, a, b)", "number(self, a, b, column, row)", "by_number(self, a, b, number)",
                   "over(self, a, b, column, row)"]},
    "roomclasses": {
        "Rooms": ["__init__(self, lists, stock, lot)", "by_heights(self)", "by_widths(self)", "goes(self)",
                  "refusal(self)", "verdict(self)", "more(self, a, b)", "with_lot(self, lot)",
                  "with_stock(self, stock)"]},
    "layingclasses": {
        "Laying": ["__init__(self, lists, stock, boxes)", "__eq__(self, other)", "lot_of_it(self)",
                   "nth(self, kind, number)", "number(self, kind, share)", "at_unit(self, sort, sheet, x, y)",
                   "rests(self)", "used(self)", "on_sheet(self, sort, sheet)"]},
    "spreadclasses": {
        "Spread": ["__init__(self, lists, stock, pieces)", "__len__(self)", "__eq__(self, other)", "entries(self)",
                   "lot_of_it(self)", "pushed(self)", "anew(self)", "room_for(self, a, b)",
                   "shifted(self, number, x, y)"]},
    "copyclasses": {
        "Copies": ["__init__(self, lists, lot, sheet)", "sheets(self, t)", "area_sheets(self, t)", "one_more(self, t)",
                   "period(self)", "most(self, sheets)"]},
    "placing": {
        "Placer": ["__init__(self, lists, stock, kinds)", "take(self, a, b, many)", "room(self, a, b)", "laid(self)",
                   "taken(self)", "opened(self)"]},
    "falling": {
        "Falling": ["__init__(self, lists, stock, way)", "take(self, a, b, many)", "room(self, a, b)", "laid(self)",
                    "taken(self)"]},
    "diaryclasses": {
        "Diary": ["__init__(self, lists, stock)", "__len__(self)", "__eq__(self, other)", "note(self, a, b, spot)",
                  "entries(self)", "lot_of_it(self)", "spread_of_it(self)", "needless(self)", "had_place(self)"]},
    "desks": {
        "Desk": ["__init__(self, lists, stock)", "job(self, lot)", "buy(self, width, height, many)",
                 "drop(self, width, height, many)", "go(self, event)", "barred(self, event)", "tried(self, event)",
                 "undo(self, many)", "do_all(self, events, keep=False)", "stock_now(self)", "lot_done(self)",
                 "tally(self)", "log(self)"]},
    "answerclasses": {
        "Answer": ["__init__(self, lists, stock, lot)", "__eq__(self, other)", "what(self)", "why(self)",
                   "with_lot(self, lot)", "with_stock(self, stock)"]},
}


def module_of(name):
    return importlib.import_module("onesheetmore." + name)


def shown(name, function):
    return name + str(inspect.signature(function))


class InterfaceTest(unittest.TestCase):
    def test_functions(self):
        for file, lines in FUNCTIONS.items():
            module = module_of(file)
            for line in lines:
                name = line.partition("(")[0]
                function = getattr(module, name)
                self.assertTrue(inspect.isfunction(function), line)
                self.assertEqual(function.__module__, module.__name__)
                self.assertEqual(function.__name__, name)
                self.assertEqual(shown(name, function), line)

    def test_classes(self):
        for file, classes in CLASSES.items():
            module = module_of(file)
            for name, lines in classes.items():
                owner = getattr(module, name)
                self.assertTrue(inspect.isclass(owner), name)
                self.assertEqual(owner.__module__, module.__name__)
                self.assertEqual(owner.__name__, name)
                for line in lines:
                    method = line.partition("(")[0]
                    self.assertIn(method, vars(owner), (name, line))
                    self.assertEqual(shown(method, vars(owner)[method]), line)


if __name__ == "__main__":
    unittest.main()
