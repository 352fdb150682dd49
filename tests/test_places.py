"""Points 11 and 12, and what "Words" say of places."""

import random
import unittest

from tests.plain import Plain, items_of
from tests.telling import FAR, add, answer, display, in_groups, place, places, row, run, settings
from tests.test_pages import drawn_document

MILLION = 1000000
FAR_OFF = (FAR, -FAR)


def item(width, space=0, height=7, depth=3):
    return (width, height, depth, space, 0, 0, 0)


def spots(settings_call, *blocks):
    """Where the items stand, block by block: page, x, y."""
    asked = [places(i) for i in range(len(blocks))]
    return [in_groups(told, 3) for told in run(settings_call, *map(add, blocks), *asked)[-len(blocks):]]


class Xs(unittest.TestCase):
    def xs(self, numbers, block):
        return [x for page, x, y in spots(settings(*numbers), block)[0]]

    def test_widths_and_spaces_before_it(self):
        block = row(item(5, 2), item(7, 1), item(0, 3), item(4, 9), indent=0)
        self.assertEqual(self.xs((100, 0, 0, 0, 0, 0), block), [0, 7, 15, 18])

    def test_the_first_indent_and_the_indent(self):
        block = row(*[item(10, 1)] * 5, indent=4)
        self.assertEqual(self.xs((25, 2, 0, 0, 0, 0), block), [4, 15, 2, 13, 2])
        self.assertEqual(self.xs((25, 15, 0, 0, 0, 0), block), [4, 15, 15, 15, 15])

    def test_indents_above_the_measure(self):
        block = row(item(10), item(10), indent=40)
        self.assertEqual(self.xs((20, 0, 0, 0, 0, 0), block), [40, 0])

    def test_shrunk_and_overfull_lines_stand_as_they_are(self):
        """Neither a line's slack nor its shrink moves an item."""
        block = row((10, 7, 3, 6, 50, 5, -1), (10, 7, 3, 0, 0, 0, 0), indent=0)
        for measure in (100, 26, 22, 20, 0):
            self.assertEqual(self.xs((measure, 0, 0, 0, 0, 0), block), [0, 16])


class Displays(unittest.TestCase):
    def x(self, measure, width, way):
        return answer(settings(measure, 7, 0, 0, 0, 0), add(display(width, way=way)), place(0, 0))[2]

    def test_each_way(self):
        for width, xs in ((0, (0, 50, 100)), (30, (0, 35, 70)), (31, (0, 34, 69)), (99, (0, 0, 1)), (100, (0, 0, 0))):
            self.assertEqual(tuple(self.x(100, width, way) for way in (0, 1, 2)), xs)

    def test_wider_than_the_measure(self):
        for width, xs in ((101, (0, -1, -1)), (102, (0, -1, -2)), (103, (0, -2, -3)), (107, (0, -4, -7))):
            self.assertEqual(tuple(self.x(100, width, way) for way in (0, 1, 2)), xs)
        self.assertEqual([self.x(0, MILLION - 1, way) for way in (0, 1, 2)], [0, -MILLION // 2, 1 - MILLION])
        self.assertEqual(self.x(99999999, MILLION, 1), 49499999)


class Ys(unittest.TestCase):
    def ys(self, numbers, *blocks):
        return [[(page, y) for page, x, y in told] for told in spots(settings(*numbers), *blocks)]

    def test_the_first_lines_upper_edge_is_at_0(self):
        for height in (0, 9, -9, MILLION):
            for depth in (0, 5, -5):
                self.assertEqual(self.ys((9, 0, 0, 0, 0, 0), display(height=height, depth=depth)), [[(0, -height)]])

    def test_lower_by_width_and_space(self):
        """The extents are 10, 10 and 12; the spaces 2, and 2 and 4 of the before."""
        found = self.ys((40, 0, 12, 2, 1000, 0), row(item(40), item(40), indent=0), display(height=9, depth=3))
        self.assertEqual(found, [[(0, -7), (0, -12 - 7)], [(0, -12 - 16 - 9)]])

    def test_the_lines_height_counts_not_the_items(self):
        found = self.ys((90, 0, 0, 0, 0, 0), row(item(40, height=3), item(40, height=8), indent=0))
        self.assertEqual(found, [[(0, -8), (0, -8)]])

    def test_an_extent_is_at_least_0(self):
        blocks = [display(head=(0, 0, 0, -1), height=-5, depth=2), display(head=(0, 0, 0, 0), height=4, depth=0)]
        self.assertEqual(self.ys((90, 0, 0, 0, 0, 0), *blocks), [[(0, 5)], [(0, -4)]])

    def test_each_page_begins_anew(self):
        blocks = [display(head=(6, 0, 0, 0), height=height, depth=0) for height in (10, 8, 9)]
        self.assertEqual(self.ys((90, 0, 0, 1, 10, 0), *blocks), [[(0, -10)], [(1, -8)], [(2, -9)]])
        self.assertEqual(self.ys((90, 0, 0, 1, 25, 0), *blocks), [[(0, -10)], [(0, -10 - 7 - 8)], [(1, -9)]])

    def test_spaces_are_neither_stretched_nor_shrunk(self):
        blocks = [display(head=(0, 0, 0, -1), height=10, depth=0), display(head=(8, 9, 8, 0), height=10, depth=0)]
        for page in (100, 28, 22, 20, 5):
            self.assertEqual(self.ys((90, 0, 0, 0, page, 0), *blocks), [[(0, -10)], [(0, -28)]])

    def test_a_paragraph_over_two_pages(self):
        found = self.ys((40, 0, 0, 3, 23, 0), row(*[item(40)] * 3, indent=0))
        self.assertEqual(found, [[(0, -7), (0, -20), (1, -7)]])


class Place(unittest.TestCase):
    START = [settings(100, 0, 12, 2, 40, 50), add(row(*[item(40, 5)] * 3)), add(display())]

    def test_one_of_places(self):
        for i, count in ((0, 3), (1, 1)):
            told = in_groups(answer(*self.START, places(i)), 3)
            self.assertEqual(len(told), count)
            for k in range(count):
                self.assertEqual(answer(*self.START, place(i, k)), [0, *told[k]])

    def test_no_such_block(self):
        for i in (-1, -2, 2, 3, *FAR_OFF):
            self.assertEqual(answer(*self.START, places(i)), [-5])
            for k in (-1, 0, 3, *FAR_OFF):
                self.assertEqual(answer(*self.START, place(i, k)), [-5])

    def test_no_such_item(self):
        for i, count in ((0, 3), (1, 1)):
            for k in (-1, -count, count, count + 1, *FAR_OFF):
                self.assertEqual(answer(*self.START, place(i, k)), [-6])

    def test_asking_changes_nothing(self):
        wanted = run(*self.START, place(0, 2), places(0))[-2:]
        told = run(*self.START, place(9, 0), place(0, 9), places(9), place(0, 2), places(0))
        self.assertEqual(told[-2:], wanted)


class AgainstPlain(unittest.TestCase):
    def test_small_documents(self):
        chance = random.Random(11)
        seen = {}
        for turn in range(800):
            numbers, blocks = drawn_document(chance, most=4)
            plain = Plain(numbers, blocks)
            asked = [(i, k) for i in range(-1, len(blocks) + 1) for k in range(-1, 5)]
            calls = [place(i, k) for i, k in asked] + [places(i) for i in range(-1, len(blocks) + 1)]
            wanted = [plain.place(i, k) for i, k in asked] + [plain.places(i) for i in range(-1, len(blocks) + 1)]
            told = run(settings(*numbers), *map(add, blocks), *calls)[-len(calls):]
            self.assertEqual(told, wanted, (numbers, blocks))
            for answered in told[:len(asked)]:
                seen[answered[0]] = seen.get(answered[0], 0) + 1
            for i, block in enumerate(blocks):
                pages = {plain.spot(i, k)[0] for k in range(len(items_of(block)))}
                seen["parted"] = seen.get("parted", 0) + (len(pages) > 1)
        self.assertGreater(min(seen.values()), 100, seen)
        self.assertEqual(set(seen), {0, -5, -6, "parted"})


if __name__ == "__main__":
    unittest.main()
