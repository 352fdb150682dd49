"""Points 9 and 10, and what "Words" say of the column."""

import random
import unittest

from tests.plain import Plain, deciding_steps
from tests.telling import add, answer, display, in_groups, lines, pages, row, run, settings, worth

MILLION = 1000000


def strip(height, depth=0, before=0, stretch=0, shrink=0, cost=0):
    """A display as a line of the column."""
    return display(0, head=(before, stretch, shrink, cost), height=height, depth=depth)


def text(count, height=10, depth=0, head=(0, 0, 0, 0), item_cost=0):
    """A paragraph of as many lines, if the measure is 10."""
    return row(*[(10, height, depth, 0, 0, 0, item_cost)] * count, head=head, indent=0)


def set_pages(blocks, page, lead=0, gap=0, orphan=0):
    """The pages with the measure 10: first line, last one, slack, overfull."""
    calls = [settings(10, 0, lead, gap, page, orphan), *map(add, blocks)]
    return in_groups(answer(*calls, pages()), 4)


def spaces(blocks, lead, gap):
    """The spaces between neighbouring blocks of one line each, by how much is taken up of a page of two."""
    found = []
    for upper, lower in zip(blocks, blocks[1:]):
        held = [[*upper[:3], -1, *upper[4:]], lower]
        slack = set_pages(held, 10000, lead, gap)[0][2]
        found.append(10000 - slack - sum(max(0, block[7] + block[8]) for block in held))
    return found


class Pages(unittest.TestCase):
    def check(self, blocks, page, wanted, **more):
        self.assertEqual(set_pages(blocks, page, **more), wanted)


class Extents(Pages):
    def test_height_and_depth_together(self):
        self.check([strip(7, 3)], 100, [(0, 0, 90, 0)])
        self.check([strip(-3, 7)], 100, [(0, 0, 96, 0)])
        self.check([strip(7, -3)], 100, [(0, 0, 96, 0)])

    def test_at_least_0(self):
        for height, depth in ((-3, 2), (2, -3), (-MILLION, -MILLION), (0, 0), (5, -5)):
            self.check([strip(height, depth)], 100, [(0, 0, 100, 0)])

    def test_the_greatest_of_a_lines_items(self):
        items = [(5, 4, -2, 0, 0, 0, -1), (5, -9, 6, 0, 0, 0, 0)]
        self.check([row(*items, indent=0)], 100, [(0, 0, 90, 0)])


class Spaces(Pages):
    def test_the_greater_of_the_gap_and_what_the_lead_leaves(self):
        pair = [strip(7, 3), strip(5, 1)]
        self.assertEqual(spaces(pair, 12, 2), [4])
        self.assertEqual(spaces(pair, 12, 4), [4])
        self.assertEqual(spaces(pair, 12, 5), [5])
        self.assertEqual(spaces(pair, 0, 0), [0])
        self.assertEqual(spaces(pair, 8, 0), [0])
        self.assertEqual(spaces(pair, 9, 0), [1])

    def test_depth_above_and_height_below_count(self):
        self.assertEqual(spaces([strip(70, 3), strip(5, 90)], 12, 0), [4])
        self.assertEqual(spaces([strip(1, -3), strip(-5, 1)], 12, 0), [20])
        self.assertEqual(spaces([strip(1, -3), strip(-5, 1)], 0, 2), [8])

    def test_the_before_of_the_block_below_in_addition(self):
        self.assertEqual(spaces([strip(5, before=900), strip(5, before=6)], 12, 2), [13])
        self.assertEqual(spaces([strip(5, before=900), strip(5, before=6)], 0, 2), [8])
        self.check([strip(5, before=900)], 100, [(0, 0, 95, 0)])

    def test_within_a_paragraph_there_is_no_before(self):
        self.check([text(3, height=7, depth=3, head=(900, 0, 0, 0))], 100, [(0, 2, 66, 0)], lead=12, gap=1)
        self.check([text(3, height=7, depth=3, head=(900, 0, 0, 0))], 100, [(0, 2, 60, 0)], lead=12, gap=5)

    def test_behind_a_pages_last_line_there_is_none(self):
        self.check([strip(10, before=50)] * 2, 10, [(0, 0, 0, 0), (1, 1, 0, 0)], gap=7)

    def test_the_before_shrinks(self):
        pair = [strip(10, cost=-1), strip(10, before=8, shrink=5)]
        self.check(pair, 28, [(0, 1, 0, 0)])
        self.check(pair, 23, [(0, 1, -5, 0)])
        self.check(pair, 22, [(0, 1, -6, 1)])

    def test_neither_gap_nor_lead_nor_the_block_aboves_before_shrinks(self):
        pair = [strip(10, before=8, shrink=8, cost=-1), strip(10)]
        self.check(pair, 22, [(0, 1, -3, 3)], gap=5)
        self.check(pair, 22, [(0, 1, -3, 3)], lead=15)
        self.check([text(2, head=(8, 0, 8, 0))], 22, [(0, 1, -3, 3)], gap=5, orphan=-1)

    def test_the_before_shrinks_only_within_a_page(self):
        three = [strip(10, cost=-1), strip(10), strip(10, before=9, shrink=9)]
        self.check(three, 18, [(0, 1, -2, 2), (2, 2, 8, 0)])


class Costs(Pages):
    def test_the_cost_of_the_block_above(self):
        """One line on the first page costs 100, two cost what the second block does."""
        for cost, first in ((0, 1), (99, 1), (100, 0), (101, 0), (-1, 0)):
            blocks = [strip(10), strip(10, cost=cost), strip(5), strip(5, cost=777)]
            self.check(blocks, 20, [(0, first, 10 * (1 - first), 0), (first + 1, 3, 10 * first, 0)])

    def test_the_last_blocks_cost_is_of_no_account(self):
        for cost in (-1, 0, MILLION):
            self.check([strip(10), strip(10, cost=cost)], 10, [(0, 0, 0, 0), (1, 1, 0, 0)])

    def test_a_cost_of_minus_1_keeps_blocks_together(self):
        self.check([strip(10, cost=-1)] * 4, 10, [(0, 3, -30, 30)])
        self.check([text(2, head=(0, 0, 0, -1)), strip(10)], 10, [(0, 0, 0, 0), (1, 2, -10, 10)])

    def test_the_last_lines_cost_of_a_paragraph_is_its_blocks(self):
        blocks = [text(3, head=(0, 0, 0, 7)), strip(10)]
        self.assertEqual(self.worth_of(blocks, 30, 50), [0, 0, 0, 7, 4, 2])

    def worth_of(self, blocks, page, orphan):
        return answer(settings(10, 0, 0, 0, page, orphan), *map(add, blocks), worth())

    def test_items_costs_are_of_no_account(self):
        for cost in (0, MILLION):
            self.check([text(4, item_cost=cost)], 20, [(0, 1, 0, 0), (2, 3, 0, 0)])


class Orphans(Pages):
    def check_worth(self, blocks, page, orphan, wanted):
        told = run(settings(10, 0, 0, 0, page, orphan), *map(add, blocks), pages(), worth())[-2:]
        spans = [span[:2] for span in in_groups(told[0], 4)]
        self.assertEqual((spans, told[1][3]), wanted)

    def test_behind_a_first_line(self):
        """Two lines on the first page, the second one a first line, cost 25 and the orphan; one costs 225."""
        heights = (10, 9, 1, 1)
        blocks = [strip(10), row(*[(10, height, 0, 0, 0, 0, 0) for height in heights], indent=0, head=(0, 0, 0, 0))]
        for orphan, end, cost in ((0, 1, 25), (199, 1, 224), (200, 0, 225), (201, 0, 225), (-1, 0, 225)):
            self.check_worth(blocks, 25, orphan, ([(0, end), (end + 1, 4)], cost))

    def test_before_a_last_line(self):
        """Three lines on the first page cost the orphan, two cost 100, four are too many."""
        for orphan, end, cost in ((0, 2, 0), (99, 2, 99), (100, 1, 100), (-1, 1, 100)):
            self.check_worth([text(4)], 30, orphan, ([(0, end), (end + 1, 3)], cost))

    def test_not_within(self):
        for orphan in (-1, 0, 50, MILLION):
            self.check_worth([text(6)], 30, orphan, ([(0, 2), (3, 5)], 0))
            self.check_worth([text(4)], 20, orphan, ([(0, 1), (2, 3)], 0))

    def test_two_lines_are_first_and_last_at_once(self):
        self.check_worth([text(2)], 10, 0, ([(0, 0), (1, 1)], 0))
        self.check_worth([text(2)], 10, 50, ([(0, 0), (1, 1)], 50))
        self.check_worth([text(2)], 10, -1, ([(0, 1)], 100))

    def test_three_lines(self):
        self.check_worth([text(3)], 10, 50, ([(0, 0), (1, 1), (2, 2)], 100))
        self.check_worth([text(3)], 10, -1, ([(0, 2)], 400))

    def test_one_line_has_no_orphan(self):
        for orphan in (-1, 0, 50):
            self.check_worth([text(1)] * 3, 10, orphan, ([(0, 0), (1, 1), (2, 2)], 0))
            self.check_worth([strip(10)] * 3, 10, orphan, ([(0, 0), (1, 1), (2, 2)], 0))


class Breaking(Pages):
    def test_the_last_page_may_be_short(self):
        self.check([strip(10)] * 3, 20, [(0, 1, 0, 0), (2, 2, 10, 0)])

    def test_the_page_0(self):
        self.check([strip(10), strip(3)], 0, [(0, 0, -10, 10), (1, 1, -3, 3)])
        self.check([strip(0)] * 3, 0, [(0, 2, 0, 0)])
        self.check([strip(-5, 5)] * 3, 0, [(0, 2, 0, 0)])
        self.check([strip(-5)] * 3, 0, [(0, 0, 0, 0), (1, 1, 0, 0), (2, 2, 0, 0)])

    def test_a_page_too_small_for_a_line(self):
        self.check([strip(5), strip(30), strip(5)], 20, [(0, 0, 15, 0), (1, 1, -10, 10), (2, 2, 15, 0)])

    def test_indents_are_of_no_account(self):
        for indent in (0, 9, 100000000):
            told = answer(settings(10, indent, 0, 0, 20, 0), *[add(strip(10))] * 4, pages())
            self.assertEqual(told, [0, 0, 1, 0, 0, 2, 3, 0, 0])

    def test_ties(self):
        """Fewer pages are better; then the one that ends earlier."""
        self.check([strip(10), strip(0), strip(0), strip(10)], 10, [(0, 0, 0, 0), (1, 3, 0, 0)])
        self.check([strip(10), strip(0), strip(0)], 10, [(0, 2, 0, 0)])

    def test_worth_sums_up(self):
        def wide(width, height):
            return display(width, head=(0, 0, 0, 9), height=height, depth=0)
        calls = [settings(10, 0, 0, 0, 12, 4), add(text(2)), add(wide(17, 15)), add(wide(12, 3))]
        told = run(*calls, lines(), pages(), worth())[-3:]
        self.assertEqual([line[5] for line in in_groups(told[0], 6)], [0, 0, 7, 2])
        self.assertEqual(in_groups(told[1], 4), [(0, 0, 2, 0), (1, 1, 2, 0), (2, 2, -3, 3), (3, 3, 9, 0)])
        self.assertEqual(told[2], [0, 9, 3, (4 + 4) + 4 + (9 + 9), 4, 4])


def drawn_head(chance):
    before = chance.choice((0, 0, 1, 4, 9))
    return before, chance.randint(0, 5), chance.choice((0, before, chance.randint(0, before))), chance.choice(
        (-1, 0, 0, 1, 9, 50)
    )


def drawn_block(chance, lowest):
    head = drawn_head(chance)
    if chance.random() < 0.35:
        height, depth = chance.randint(lowest, 9), chance.randint(lowest, 5)
        return display(chance.randint(0, 14), head, chance.randint(0, 2), height, depth)
    items = []
    for each in range(chance.choice((1, 1, 2, 2, 3, 4))):
        space = chance.randint(0, 3)
        items.append((
            chance.randint(0, 9), chance.randint(lowest, 9), chance.randint(lowest, 5), space, chance.randint(0, 3),
            chance.randint(0, space), chance.choice((-1, 0, 0, 3)),
        ))
    return row(*items, head=head, indent=chance.choice((0, 0, 2, 15)))


def drawn_settings(chance):
    return (
        chance.choice((0, 5, 9, 12)), chance.choice((0, 0, 1, 15)), chance.choice((0, 6, 12)),
        chance.choice((0, 1, 4, 15)), chance.choice((0, 1, 7, 15, 25, 40, 60)), chance.choice((-1, 0, 3, 40)),
    )


def drawn_document(chance, most=5):
    lowest = chance.choice((0, 0, -4, -9))
    return drawn_settings(chance), [drawn_block(chance, lowest) for each in range(chance.randint(0, most))]


class AgainstAllBreakings(unittest.TestCase):
    def setUp(self):
        self.kinds = {}

    def see(self, kind, seen):
        self.kinds[kind] = self.kinds.get(kind, 0) + bool(seen)

    def see_all(self, plain):
        inner = [
            (line, below) for line, below in zip(plain.set_lines, plain.set_lines[1:]) if line[0] == below[0]
        ]
        counts = [sum(line[0] == i for line in plain.set_lines) for i, block in enumerate(plain.blocks)]
        texts = [count for count, block in zip(counts, plain.blocks) if block[4] == 0]
        forms = "".join(str(block[4]) for block in plain.blocks)
        self.see("page 0", plain.page == 0 and len(plain.set_pages) > 1)
        self.see("page too small for a line", any(item[0] > plain.page for item in plain.row))
        for orphan in (-1, 0, 3, 40):
            self.see(f"orphan {orphan}", plain.orphan == orphan and inner and len(plain.set_pages) > 1)
        self.see("cost -1", any(block[3] == -1 for block in plain.blocks[:-1]))
        self.see("at least 0", any(line[3] + line[4] < 0 for line in plain.set_lines))
        self.see("one line", 1 in texts)
        self.see("two lines", 2 in texts)
        self.see("more lines", max(texts, default=0) > 2)
        self.see("display between", "010" in forms)
        for line, below in zip(plain.set_lines, plain.set_lines[1:]):
            self.see("gap", plain.gap > plain.lead - line[4] - below[3])
            self.see("lead", plain.gap < plain.lead - line[4] - below[3])
        self.see("shrunk", any(slack < 0 and not over for first, last, slack, over, cost in plain.set_pages))
        self.see("overfull", any(page[3] for page in plain.set_pages))

    def test_small_documents(self):
        chance = random.Random(9)
        for turn in range(3000):
            numbers, blocks = drawn_document(chance)
            plain = Plain(numbers, blocks)
            told = run(settings(*numbers), *map(add, blocks), lines(), pages(), worth())[-3:]
            with self.subTest(settings=numbers, blocks=blocks):
                self.assertEqual(told, [plain.lines(), plain.pages(), plain.worth()])
            self.see_all(plain)
        self.assertGreater(min(self.kinds.values()), 50, self.kinds)

    def test_many_lines_of_few_heights(self):
        """Displays alone, so that it is the pages that tie in many ways."""
        steps = dict.fromkeys((1, 2, 3, 4), 0)
        chance = random.Random(10)
        for turn in range(1500):
            blocks = [
                strip(chance.choice((0, 0, 5, 10)), before=before, shrink=before, cost=chance.choice((-1, 0, 0, 0, 25)))
                for before in chance.choices((0, 0, 5), k=chance.randint(1, 9))
            ]
            page = chance.choice((0, 5, 10, 15, 20))
            plain = Plain((10, 0, 0, 0, page, 0), blocks)
            self.assertEqual(set_pages(blocks, page), [told[:4] for told in plain.set_pages], (blocks, page))
            for step in deciding_steps(plain.row, page, 0, 0):
                steps[step] += 1
        self.assertGreater(min(steps.values()), 50, steps)


if __name__ == "__main__":
    unittest.main()
