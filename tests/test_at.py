"""Point 13: the items at a point of a page."""

import random
import unittest

from tests.plain import Plain, items_of
from tests.telling import FAR, add, answer, at, display, in_groups, row, run, settings
from tests.test_pages import drawn_document

SET = settings(100, 0, 0, 0, 10, 0)


def item(width, height=7, depth=3, space=0, cost=-1):
    return (width, height, depth, space, 0, 0, cost)


def found(blocks, page, x, y, set_by=SET):
    return in_groups(answer(set_by, *map(add, blocks), at(page, x, y)), 2)


class Edges(unittest.TestCase):
    def test_left_and_low_are_in_it_right_and_high_are_not(self):
        """The box goes from 35 to 65, and from -10 to 0."""
        block = display(30, height=7, depth=3)
        for x, in_x in ((34, False), (35, True), (36, True), (64, True), (65, False), (66, False)):
            for y, in_y in ((-11, False), (-10, True), (-9, True), (-7, True), (-1, True), (0, False), (1, False)):
                self.assertEqual(found([block], 0, x, y), [(0, 0)] if in_x and in_y else [], (x, y))

    def test_a_point_has_one_of_two_boxes_side_by_side(self):
        block = row(item(10), item(10), indent=0)
        for x, wanted in ((-1, []), (0, [(0, 0)]), (9, [(0, 0)]), (10, [(0, 1)]), (19, [(0, 1)]), (20, [])):
            self.assertEqual(found([block], 0, x, -5), wanted)

    def test_none_in_the_space_between(self):
        block = row(item(10, space=2), item(10), indent=0)
        for x, wanted in ((9, [(0, 0)]), (10, []), (11, []), (12, [(0, 1)])):
            self.assertEqual(found([block], 0, x, -5), wanted)

    def test_an_items_own_height_and_depth(self):
        """The baseline is at -7; the second box goes from -8 to -5, the third from -7 - 3 to -7 - 2."""
        block = row(item(10), item(10, height=2, depth=1), item(10, height=-2, depth=3), indent=0)
        for y, inside in ((-11, ()), (-10, (0, 2)), (-9, (0,)), (-8, (0, 1)), (-6, (0, 1)), (-5, (0,)), (-1, (0,))):
            for k in range(3):
                self.assertEqual(found([block], 0, 10 * k + 5, y), [(0, k)] if k in inside else [], (k, y))

    def test_boxes_of_no_width_or_no_height(self):
        for block in (
            display(0, way=0), display(way=0, height=3, depth=-3), display(way=0, height=0, depth=0),
            display(way=0, height=-3, depth=2), display(0, way=0, height=0, depth=0),
        ):
            for x in (-1, 0, 1):
                for y in range(-5, 5):
                    self.assertEqual(found([block], 0, x, y), [])

    def test_far_off(self):
        for far in (FAR, -FAR):
            self.assertEqual(found([display()], 0, far, -5), [])
            self.assertEqual(found([display()], 0, 40, far), [])
            self.assertEqual(found([display()], 0, far, far), [])


class OverOneAnother(unittest.TestCase):
    """Widths, spaces and extents aren't below 0, so boxes may touch but never share a point."""

    def test_lines_without_a_space_between(self):
        """The boxes go from -10 to 0, from -20 to -10, and from -32 to -20."""
        flush = (0, 0, 0, 0)
        blocks = [display(30, flush, way=0, height=7), row(item(20), indent=5, head=flush), display(30, flush, way=0)]
        numbers = settings(100, 0, 0, 0, 100, 0)
        for y, wanted in ((0, []), (-1, [0]), (-10, [0]), (-11, [1]), (-20, [1]), (-21, [2]), (-32, [2]), (-33, [])):
            self.assertEqual(found(blocks, 0, 10, y, numbers), [(i, 0) for i in wanted], y)

    def test_items_that_reach_beyond_their_neighbours(self):
        """The line's baseline is at -9; its boxes reach up to 0 and down to -15, and the next line begins there."""
        blocks = [
            row(item(10, height=9, depth=-8), item(10, height=-5, depth=6), indent=0, head=(0, 0, 0, 0)),
            row(item(20, height=4, depth=0), indent=0, head=(0, 0, 0, 0)),
        ]
        numbers = settings(100, 0, 0, 0, 100, 0)
        for x, y, wanted in (
            (5, -1, [(0, 0)]), (5, 0, []), (5, -2, []), (15, -14, []), (15, -15, [(0, 1)]), (15, -13, []),
            (15, -16, [(1, 0)]), (5, -15, []), (5, -16, [(1, 0)]), (5, -19, [(1, 0)]), (5, -20, []),
        ):
            self.assertEqual(found(blocks, 0, x, y, numbers), wanted, (x, y))

    def test_a_box_of_no_width_lies_at_the_edge_of_another(self):
        block = row(item(10), item(0), item(10), indent=0)
        for x, wanted in ((9, [(0, 0)]), (10, [(0, 2)])):
            self.assertEqual(found([block], 0, x, -5), wanted)

    def test_lines_whose_extent_would_be_below_0(self):
        """The middle line's baseline is higher than its upper edge, but its box is empty."""
        flush = (0, 0, 0, 0)
        blocks = [display(30, flush, way=0, height=7), display(30, flush, 0, -20, 5), display(30, flush, 0, 4, 0)]
        numbers = settings(100, 0, 0, 0, 100, 0)
        told = [found(blocks, 0, 10, y, numbers) for y in range(-60, 40)]
        self.assertEqual(sum(told, []), [(2, 0)] * 4 + [(0, 0)] * 10)


class OtherPages(unittest.TestCase):
    BLOCKS = [display(30, way=0, height=7, depth=3, head=(0, 0, 0, 0))] * 2

    def test_each_page_has_its_own(self):
        for page, wanted in ((0, [(0, 0)]), (1, [(1, 0)])):
            self.assertEqual(found(self.BLOCKS, page, 5, -5), wanted)

    def test_a_page_that_there_isnt(self):
        for page in (-1, -2, 2, 3, FAR, -FAR):
            self.assertEqual(found(self.BLOCKS, page, 5, -5), [])


class AgainstPlain(unittest.TestCase):
    def test_points_about_every_box(self):
        chance = random.Random(12)
        seen = dict.fromkeys((0, 1), 0)
        for turn in range(400):
            numbers, blocks = drawn_document(chance, most=3)
            plain = Plain(numbers, blocks)
            points = self.points(chance, plain)
            told = run(settings(*numbers), *map(add, blocks), *[at(*point) for point in points])[1 + len(blocks):]
            self.assertEqual(told, [plain.at(*point) for point in points], (numbers, blocks, points))
            for answered in told:
                seen[len(answered) // 2] += 1
        self.assertGreater(min(seen.values()), 200, seen)

    def points(self, chance, plain):
        """Corners of boxes and points beside them, on their own pages mostly."""
        points = []
        for i, block in enumerate(plain.blocks):
            for k, (width, height, depth, *others) in enumerate(items_of(block)):
                page, x, y = plain.spot(i, k)
                for each in range(12):
                    points.append((
                        page + chance.choice((0, 0, 0, 0, 1, -1)),
                        chance.choice((x, x + width)) + chance.choice((-1, 0, 0, 1)),
                        chance.choice((y - depth, y + height)) + chance.choice((-1, 0, 0, 1)),
                    ))
        return points or [(0, 0, 0)]


if __name__ == "__main__":
    unittest.main()
