"""Points 5 and 23 to 25: useful sides, and sheets that are whole one way."""

import unittest
from itertools import product

from onesheetmore.listforms import used_lists
from onesheetmore.wholes import (
    is_whole_across, is_whole_for, is_whole_stock, is_whole_up, useful_height, useful_width, whole_ways)
from samples import ODD, ONE_SIZE, ROUND, SIDES, SIX, STOCK, THREE, TWELVE, TWO, check_calls, check_refusals
import samples


def useful(sizes, side):
    return max([many * sizes[0] for many in range(side // sizes[0] + 1)])


def is_whole(sizes, side):
    fitting = [size for size in sizes if size <= side]
    return not fitting or useful(sizes, side) % max(fitting) == 0


class WholesTest(unittest.TestCase):
    def test_examples(self):
        lists = ((2, 4), (3, 6))
        self.assertEqual([useful_width(lists, (7, 10)), useful_height(lists, (7, 10)), useful_width(lists, (1, 10))],
                         [6, 9, 0])
        self.assertEqual([whole_ways(TWO, (3, 3)), whole_ways(TWO, (1, 3)), is_whole_stock(THREE, STOCK)],
                         ["neither", "across", True])
        self.assertEqual([is_whole_for(TWO, (3, 3), ROUND), is_whole_for(TWO, (3, 3), ((0, 0, 1), (1, 0, 2)))],
                         [False, True])

    def test_against_the_definitions(self):
        names = {(True, True): "both", (True, False): "across", (False, True): "up", (False, False): "neither"}
        found = set()
        for lists in (TWO, THREE, ODD, SIDES, ONE_SIZE, SIX, ((2, 4), (3,))):
            for sheet in product(range(1, 14), repeat=2):
                self.assertEqual(useful_width(lists, sheet), useful(lists[0], sheet[0]))
                self.assertEqual(useful_height(lists, sheet), useful(lists[1], sheet[1]))
                across, up = is_whole(lists[0], sheet[0]), is_whole(lists[1], sheet[1])
                self.assertIs(is_whole_across(lists, sheet), across)
                self.assertIs(is_whole_up(lists, sheet), up)
                self.assertEqual(whole_ways(lists, sheet), names[across, up])
                found.add(whole_ways(lists, sheet))
                for many in (1, 10 ** 29):
                    self.assertIs(is_whole_stock(lists, ((8, 6, 1), (*sheet, many))),
                                  whole_ways(lists, (8, 6)) != "neither" and (across or up))
        self.assertEqual(len(found), 4)

    def test_edges(self):
        self.assertEqual([useful_width(SIDES, (1, 2)), useful_height(SIDES, (1, 2))], [0, 0])
        self.assertEqual(whole_ways(SIDES, (1, 2)), "both")
        self.assertEqual(whole_ways(SIDES, (1, 9)), "across")
        self.assertEqual(whole_ways(SIDES, (7, 2)), "up")
        self.assertEqual(whole_ways(SIDES, (7, 11)), "neither")
        self.assertEqual(whole_ways(SIDES, (5, 8)), "both")
        self.assertEqual(useful_width(THREE, (TWELVE, 1)), TWELVE)
        self.assertEqual(whole_ways(THREE, (TWELVE, TWELVE)), "neither")
        self.assertEqual(whole_ways(THREE, (TWELVE + 1, TWELVE)), "across")
        self.assertIs(is_whole_stock(TWO, ()), True)
        self.assertIs(is_whole_stock(TWO, ((2, 2, 5), (3, 3, 1), (4, 4, 1))), False)

    def test_is_whole_for(self):
        lots = [(), ROUND, ((0, 0, 1),), ((1, 1, 1),), ((0, 2, 1),), ((0, 0, 1), (2, 2, 1)), ((1, 2, 3), (2, 1, 1))]
        for lot in lots:
            used, _ = used_lists(THREE, lot)
            for sheet in product(range(1, 9), repeat=2):
                self.assertIs(is_whole_for(THREE, sheet, lot), is_whole(used[0], sheet[0]) or is_whole(used[1], sheet[1]))
        self.assertIs(is_whole_for(TWO, (3, 3), ()), True)

    def test_refusals(self):
        check_refusals(self, is_whole_for, {"lists": TWO, "sheet": (3, 3), "lot": ROUND}, {"lot": samples.is_lot(TWO)})
        check_calls(self, is_whole_for, {"lists": TWO, "sheet": (3, 3), "lot": ROUND})
        for function in (useful_width, useful_height, is_whole_across, is_whole_up, whole_ways):
            check_calls(self, function, {"lists": THREE, "sheet": (3, 4)})
        check_calls(self, is_whole_stock, {"lists": THREE, "stock": STOCK})


if __name__ == "__main__":
    unittest.main()
