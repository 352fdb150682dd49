"""A block told by numbers: its forms, its ranges, the order of its refusals, and how many may be held."""

import unittest

from tests.telling import FAR, ITEM, OK, add, block, blocks_after, change, display, displays, paragraph, put, run, take

MILLION = 1000000
HEAD_RANGES = {0: (0, MILLION), 1: (0, MILLION), 2: (0, MILLION), 3: (-1, MILLION)}
FIRST_INDENT_RANGE = {5: (0, 100000000)}
ITEM_RANGES = {
    0: (0, MILLION),
    1: (-MILLION, MILLION),
    2: (-MILLION, MILLION),
    3: (0, MILLION),
    4: (0, MILLION),
    5: (0, MILLION),
    6: (-1, MILLION),
}
DISPLAY_RANGES = {5: (0, 2), 6: (0, MILLION), 7: (-MILLION, MILLION), 8: (-MILLION, MILLION)}

# The shrinks are 0 and what they are held against is wide, so that one number alone can be at fault.
WIDE_PARAGRAPH = paragraph(3, head=(MILLION, 0, 0, 0), item=(40, 7, 3, MILLION, 0, 0, 0))
WIDE_DISPLAY = display(head=(MILLION, 0, 0, 0))


def with_number(told, place, number):
    return told[:place] + [number] + told[place + 1:]


def paragraph_ranges():
    ranges = {**HEAD_RANGES, **FIRST_INDENT_RANGE}
    for item in range(3):
        for place, limits in ITEM_RANGES.items():
            ranges[6 + 7 * item + place] = limits
    return ranges


def told_in_three_ways(told):
    """The first answer of add, of put and of change to the same block."""
    return [
        run(add(told))[0],
        run(put(0, told))[0],
        run(add(display()), change(0, told))[1],
    ]


class Told(unittest.TestCase):
    def check(self, told, answer):
        with self.subTest(told=told):
            self.assertEqual(told_in_three_ways(told), [answer] * 3)
            if answer == OK:
                self.assertEqual(run(add(told), block(0))[1], OK + told)


class Forms(Told):
    def test_ordinary_blocks_are_taken(self):
        self.check(paragraph(), OK)
        self.check(paragraph(3), OK)
        self.check(paragraph(600), OK)
        for way in (0, 1, 2):
            self.check(display(way=way), OK)

    def test_an_empty_list(self):
        self.check([], [-1])

    def test_too_short_for_any_form(self):
        for size in range(1, 5):
            self.check([0] * size, [-1])
            self.check([1] * size, [-1])

    def test_a_paragraph_without_an_item(self):
        self.check([6, 0, 0, 0, 0], [-1])
        self.check([6, 0, 0, 0, 0, 10], [-1])

    def test_a_paragraph_whose_items_are_not_whole(self):
        for size in range(5, 40):
            told = paragraph(6)[:size]
            self.check(told, OK if size in (13, 20, 27, 34) else [-1])

    def test_a_display_too_short_or_too_long(self):
        for size in range(5, 30):
            told = (display() + [0] * 30)[:size]
            self.check(told, OK if size == 9 else [-1])

    def test_a_fifth_number_that_is_no_form(self):
        for number in (-1, 2, 3, FAR, -FAR):
            self.check(with_number(paragraph(), 4, number), [-1])
            self.check(with_number(display(), 4, number), [-1])

    def test_the_forms_are_not_mixed(self):
        self.check(with_number(paragraph(), 4, 1), [-1])
        self.check(with_number(display(), 4, 0), [-1])

    def test_a_list_of_the_most_numbers(self):
        self.check([0] * 10000, [-1])
        self.check([0] * 9995, [-3])


class Ranges(Told):
    def check_ranges(self, told, ranges):
        for place, (low, high) in ranges.items():
            for number in (low, high):
                self.check(with_number(told, place, number), OK)
            for number in (low - 1, high + 1, -FAR, FAR):
                self.check(with_number(told, place, number), [-2])

    def test_paragraph(self):
        self.check_ranges(WIDE_PARAGRAPH, paragraph_ranges())

    def test_display(self):
        self.check_ranges(WIDE_DISPLAY, {**HEAD_RANGES, **DISPLAY_RANGES})

    def test_the_shrink_is_at_most_the_before(self):
        for before in (0, 1, 7, MILLION - 1):
            for tell in (paragraph, display):
                self.check(tell(head=(before, 0, before, 0)), OK)
                self.check(tell(head=(before, MILLION, before + 1, 0)), [-2])

    def test_an_items_shrink_is_at_most_its_space(self):
        for space in (0, 1, 7, MILLION - 1):
            even = [40, 7, 3, space, 0, space, 0]
            above = [MILLION, 7, 3, space, MILLION, space + 1, 0]
            self.check(paragraph(item=even), OK)
            self.check(paragraph(item=above), [-2])
            self.check(paragraph(2) + above, [-2])
            self.check(paragraph() + above + list(ITEM), [-2])

    def test_height_and_depth_may_be_below_0_together(self):
        self.check(display(height=-MILLION, depth=-MILLION), OK)
        self.check(paragraph(item=(0, -MILLION, -MILLION, 0, 0, 0, -1)), OK)


class Order(Told):
    def test_the_form_is_asked_before_the_ranges(self):
        self.check([-1] * 4, [-1])
        self.check(with_number(display() + [0], 6, -1), [-1])
        self.check(with_number(paragraph() + [0], 0, -1), [-1])
        self.check(with_number(display(way=3), 4, 2), [-1])

    def test_the_form_is_asked_before_how_many(self):
        self.check(paragraph(601) + [0], [-1])
        full = [add(told) for told in displays(60)]
        self.assertEqual(run(*full, add([]))[60], [-1])
        self.assertEqual(run(*full, put(3, display() + [0]))[60], [-1])

    def test_the_ranges_are_asked_before_how_many(self):
        self.check(with_number(paragraph(601), 5, -1), [-2])
        self.check(with_number(paragraph(601), 6 + 7 * 601 - 1, -2), [-2])
        full = [add(told) for told in displays(60)]
        self.assertEqual(run(*full, add(display(way=3)))[60], [-2])
        self.assertEqual(run(*full, put(3, display(way=-1)))[60], [-2])

    def test_the_place_is_asked_before_all(self):
        for told in ([], display(way=3), paragraph(601), display()):
            self.assertEqual(run(put(1, told)), [[-5]])
            self.assertEqual(run(change(0, told)), [[-5]])


class HowMany(unittest.TestCase):
    def test_60_blocks_and_no_more(self):
        full = [add(told) for told in displays(60)]
        self.assertEqual(run(*full), [OK] * 60)
        for more in (add(display()), add(paragraph()), put(0, display()), put(60, display())):
            self.assertEqual(run(*full, more)[60], [-3])
            self.assertEqual(blocks_after(*full, more), displays(60))

    def test_change_where_60_are_held(self):
        full = [add(told) for told in displays(60)]
        for i in (0, 30, 59):
            wanted = displays(60)
            wanted[i] = paragraph(600)
            self.assertEqual(run(*full, change(i, paragraph(600)))[60], OK)
            self.assertEqual(blocks_after(*full, change(i, paragraph(600))), wanted)

    def test_a_place_is_free_again_behind_take(self):
        full = [add(told) for told in displays(60)]
        self.assertEqual(run(*full, take(7), put(0, display()), add(display()))[60:], [OK, OK, [-3]])

    def test_600_items_and_no_more_in_one_block(self):
        self.assertEqual(run(add(paragraph(600))), [OK])
        self.assertEqual(run(add(paragraph(601))), [[-3]])
        self.assertEqual(run(put(0, paragraph(601))), [[-3]])
        self.assertEqual(run(add(display()), change(0, paragraph(601))), [OK, [-3]])

    def test_600_items_and_no_more_together(self):
        start = [add(paragraph(250)), add(display()), add(paragraph(349))]
        self.assertEqual(run(*start, add(paragraph(1)), add(paragraph(1))), [OK] * 4 + [[-3]])
        self.assertEqual(run(*start, put(0, paragraph(1)), put(1, paragraph(1))), [OK] * 4 + [[-3]])
        self.assertEqual(run(*start, add(paragraph(2)), put(0, paragraph(2))), [OK] * 3 + [[-3]] * 2)

    def test_a_displays_box_is_no_item_of_a_paragraph(self):
        calls = [add(paragraph(600))] + [add(told) for told in displays(59)]
        self.assertEqual(run(*calls), [OK] * 60)

    def test_change_frees_its_own_items_alone(self):
        start = [add(paragraph(400)), add(paragraph(200))]
        self.assertEqual(run(*start, change(0, paragraph(400)))[2], OK)
        self.assertEqual(run(*start, change(0, paragraph(401)))[2], [-3])
        self.assertEqual(run(*start, change(1, paragraph(200)))[2], OK)
        self.assertEqual(run(*start, change(1, paragraph(201)))[2], [-3])
        self.assertEqual(run(*start, change(1, display()), change(0, paragraph(600)))[2:], [OK, OK])

    def test_items_are_free_again_behind_take_and_change(self):
        start = [add(paragraph(400)), add(paragraph(200))]
        self.assertEqual(run(*start, take(1), add(paragraph(201)), add(paragraph(200)))[2:], [OK, [-3], OK])
        self.assertEqual(run(*start, change(0, paragraph(1)), add(paragraph(399)), add(paragraph(1)))[2:], [OK, OK, [-3]])


if __name__ == "__main__":
    unittest.main()
