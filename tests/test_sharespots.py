"""Points 6, 27 and 28: where shares lie, and their numbers."""

import unittest
from itertools import product

from onesheetmore.numbering import share_by_number, share_number
from onesheetmore.sharespots import ground_of, is_share, share_over, share_under, top_over
from onesheetmore.shares import share_count, top_shares
from samples import ODD, ONE_SIZE, SIDES, THIRTY, THREE, TWELVE, TWO, all_kinds, check_calls, check_refusals
import samples

SHEETS = [(1, 1), (1, 5), (3, 2), (4, 4), (3, 3), (5, 7), (7, 6)]


def own_shares(lists, sheet):
    """All (a, b, column, row) of the sheet's own shares."""
    for a, b in all_kinds(lists):
        for column, row in product(range(sheet[0] // lists[0][a]), range(sheet[1] // lists[1][b])):
            yield (a, b, column, row)


class SharespotsTest(unittest.TestCase):
    def test_examples(self):
        self.assertEqual([ground_of(THREE, 1, 0, 2, 3), is_share(THREE, (3, 2), 1, 1, 1, 0)], [(4, 3, 6, 4), False])
        self.assertEqual([share_over(THREE, (0, 0), 5, 3, 2, 1), share_under(THREE, (2, 1), 1, 0, 0, 1)],
                         [(1, 1), ((4, 4), (0, 1))])
        self.assertEqual(top_over(THREE, (3, 2), 0, 0, 2, 1), (0, 1, 2, 0))

    def test_grounds_and_shares(self):
        for lists in (TWO, THREE, ODD, SIDES, ONE_SIZE):
            for sheet in SHEETS:
                own = list(own_shares(lists, sheet))
                for a, b in all_kinds(lists):
                    for column, row in product(range(8), repeat=2):
                        self.assertIs(is_share(lists, sheet, a, b, column, row), (a, b, column, row) in own)
                        left, bottom, right, top = ground_of(lists, a, b, column, row)
                        self.assertEqual((left, bottom), (column * lists[0][a], row * lists[1][b]))
                        self.assertEqual((right - left, top - bottom), (lists[0][a], lists[1][b]))

    def test_over_and_under(self):
        for lists in (TWO, THREE, ODD, SIDES):
            for (a, b), (wide, high) in product(all_kinds(lists), repeat=2):
                if wide < a or high < b:
                    continue
                found = {}
                for column, row in product(range(9), repeat=2):
                    over = share_over(lists, (a, b), column, row, wide, high)
                    outer, inner = ground_of(lists, wide, high, *over), ground_of(lists, a, b, column, row)
                    self.assertTrue(outer[0] <= inner[0] and outer[1] <= inner[1])
                    self.assertTrue(inner[2] <= outer[2] and inner[3] <= outer[3])
                    found.setdefault(over, []).append((column, row))
                columns, rows = share_under(lists, (wide, high), 0, 0, a, b)
                self.assertEqual(found[0, 0], list(product(range(*columns), range(*rows))))
                columns, rows = share_under(lists, (wide, high), 1, 2, a, b)
                self.assertEqual((columns[0], rows[0]), (columns[1], 2 * rows[1]))
        self.assertEqual(share_over(THREE, (0, 1), 10 ** 59, 3, 2, 1), (10 ** 59 // 4, 3))
        self.assertEqual(share_under(THREE, (2, 2), THIRTY, 0, 0, 2), ((4 * THIRTY, 4), (0, 1)))

    def test_top_over(self):
        for lists in (TWO, THREE, ODD, SIDES, ONE_SIZE):
            for sheet in SHEETS:
                tops = {}
                for a, b, column, row in own_shares(lists, sheet):
                    top = top_over(lists, sheet, a, b, column, row)
                    wider = [(wide, high, *share_over(lists, (a, b), column, row, wide, high))
                             for wide, high in all_kinds(lists) if wide >= a and high >= b]
                    self.assertEqual(top, [other for other in wider if is_share(lists, sheet, *other)][-1])
                    self.assertEqual(top_over(lists, sheet, *top), top)
                    tops[top] = True
                for a, b, many in top_shares(lists, sheet):
                    self.assertEqual(len([top for top in tops if top[:2] == (a, b)]), many)
        last = TWELVE - 1
        self.assertEqual(top_over(TWO, (TWELVE, TWELVE), 0, 0, last, last), (0, 0, last, last))
        self.assertEqual(top_over(TWO, (TWELVE, TWELVE), 0, 0, last - 1, last), (1, 0, last // 2 - 1, last))

    def test_shares_nest(self):
        for lists in (THREE, SIDES):
            for sheet in ((5, 6), (7, 3)):
                grounds = [ground_of(lists, *share) for share in own_shares(lists, sheet)]
                for one, other in product(grounds, repeat=2):
                    meet = one[0] < other[2] and other[0] < one[2] and one[1] < other[3] and other[1] < one[3]
                    across = one[0] >= other[0] and one[2] <= other[2] or other[0] >= one[0] and other[2] <= one[2]
                    up = one[1] >= other[1] and one[3] <= other[3] or other[1] >= one[1] and other[3] <= one[3]
                    self.assertEqual(meet, across and up)

    def test_refusals(self):
        lists = ((1, 2, 4), (1, 2))
        kind = {"a": samples.is_below(3), "b": samples.is_below(2)}
        spot = {"column": samples.is_number, "row": samples.is_number}
        given = {"a": 0, "b": 1, "column": 1, "row": 0}
        check_refusals(self, ground_of, {"lists": lists, **given}, {**kind, **spot})
        check_refusals(self, is_share, {"lists": lists, "sheet": (3, 2), **given}, {**kind, **spot})
        check_refusals(self, top_over, {"lists": lists, "sheet": (2, 2), **given},
                       {**kind, "column": samples.is_below(2), "row": samples.is_below(1)})
        kinds = {"kind": samples.is_kind(lists), **spot}
        check_refusals(self, share_over, {"lists": lists, "kind": (1, 0), "column": 1, "row": 0, "wide": 1, "high": 1}, {
            **kinds, "wide": lambda thing: samples.is_below(3)(thing) and thing >= 1, "high": samples.is_below(2)})
        check_refusals(self, share_over, {"lists": THREE, "kind": (0, 1), "column": 1, "row": 0, "wide": 0, "high": 1}, {
            "wide": samples.is_below(3), "high": lambda thing: samples.is_below(3)(thing) and thing >= 1})
        check_refusals(self, share_under, {"lists": lists, "kind": (1, 0), "column": 1, "row": 0, "wide": 1, "high": 0}, {
            **kinds, "wide": samples.is_below(2), "high": samples.is_below(1)})
        for function, more in ((ground_of, {}), (is_share, {"sheet": (3, 2)}), (top_over, {"sheet": (3, 2)})):
            check_calls(self, function, {"lists": lists, **more, **given})
        for function, wide in ((share_over, 2), (share_under, 0)):
            check_calls(self, function, {
                "lists": lists, "kind": (1, 0), "column": 3, "row": 2, "wide": wide, "high": 0})


class NumberingTest(unittest.TestCase):
    def test_examples(self):
        self.assertEqual([share_number(THREE, (4, 4), 1, 0, 1, 2), share_by_number(THREE, (4, 4), 1, 0, 6)], [6, (1, 2)])

    def test_column_by_column(self):
        for lists in (TWO, THREE, ODD, SIDES, ONE_SIZE):
            for sheet in SHEETS:
                for a, b in all_kinds(lists):
                    shares = [share[2:] for share in own_shares(lists, sheet) if share[:2] == (a, b)]
                    self.assertEqual(len(shares), share_count(lists, sheet, a, b))
                    for number, (column, row) in enumerate(sorted(shares)):
                        self.assertEqual(share_number(lists, sheet, a, b, column, row), number)
                        self.assertEqual(share_by_number(lists, sheet, a, b, number), (column, row))
        self.assertEqual(share_number(TWO, (TWELVE, TWELVE), 0, 0, TWELVE - 1, TWELVE - 1), TWELVE ** 2 - 1)
        self.assertEqual(share_by_number(TWO, (TWELVE, TWELVE), 0, 0, TWELVE ** 2 - 1), (TWELVE - 1, TWELVE - 1))

    def test_refusals(self):
        index = samples.is_below(3)
        given = {"lists": THREE, "sheet": (2, 3), "a": 0, "b": 1, "column": 1, "row": 0}
        check_refusals(self, share_number, given, {
            "a": index, "b": index, "column": samples.is_below(2), "row": samples.is_below(1)})
        check_calls(self, share_number, given)
        given = {"lists": THREE, "sheet": (3, 3), "a": 1, "b": 0, "number": 1}
        check_refusals(self, share_by_number, given, {"a": index, "b": index, "number": samples.is_below(3)})
        check_calls(self, share_by_number, given)
        for number in (0, 1):
            told = samples.refusal_of(lambda: share_by_number(TWO, (1, 1), 1, 0, number))
            self.assertEqual(told, ("number", -1))


if __name__ == "__main__":
    unittest.main()
