"""Point 8, and what "Words" say of items, lines, and lines of blocks."""

import random
import unittest

from boxpages.breaking import RowItem, best_breaking
from tests.plain import best_ends_by_sums, best_lines, breakings, deciding_steps
from tests.telling import add, answer, display, in_groups, lines, paragraph, row, settings

MILLION = 1000000
FARTHEST = 100000000


def item(width, space=0, shrink=0, cost=0, stretch=0, height=1, depth=0):
    return (width, height, depth, space, stretch, shrink, cost)


def set_row(items, measure, first_indent=0, indent=0):
    """The lines of a paragraph of these items alone: first item, last one, overfull."""
    told = answer(settings(measure, indent, 0, 0, 0, 0), add(row(*items, indent=first_indent)), lines())
    return [(first, last, overfull) for owner, first, last, height, depth, overfull in in_groups(told, 6)]


class OneRow(unittest.TestCase):
    def check(self, items, measure, wanted, first_indent=0, indent=0):
        self.assertEqual(set_row(items, measure, first_indent, indent), wanted)


class Widths(OneRow):
    def test_the_space_behind_the_last_item_is_of_no_account(self):
        self.check([item(4, space=2), item(4, space=9)], 10, [(0, 1, 0)])
        self.check([item(4, space=2), item(4, space=9)], 9, [(0, 0, 0), (1, 1, 0)])
        self.check([item(10, space=MILLION)], 10, [(0, 0, 0)])

    def test_the_indents(self):
        items = [item(10)] * 6
        self.check(items, 30, [(0, 2, 0), (3, 5, 0)])
        self.check(items, 30, [(0, 0, 0), (1, 3, 0), (4, 5, 0)], first_indent=20)
        self.check(items, 40, [(0, 3, 0), (4, 4, 0), (5, 5, 0)], indent=30)
        self.check(items, 40, [(0, 0, 0), (1, 2, 0), (3, 4, 0), (5, 5, 0)], first_indent=30, indent=20)

    def test_indents_above_the_measure(self):
        self.check([item(0)], 3, [(0, 0, 2)], first_indent=5)
        self.check([item(4), item(4)], 3, [(0, 1, 10)], first_indent=5, indent=9)
        self.check([item(4, space=20), item(4)], 3, [(0, 0, 6), (1, 1, 10)], first_indent=5, indent=9)

    def test_overfull(self):
        self.check([item(10)], 0, [(0, 0, 10)])
        self.check([item(10)], 9, [(0, 0, 1)])
        self.check([item(10)], 10, [(0, 0, 0)])
        self.check([item(10, cost=-1), item(5)], 12, [(0, 1, 3)])
        self.check([item(10), item(5)], 12, [(0, 0, 0), (1, 1, 0)])

    def test_shrinks(self):
        pair = [item(10, space=4, shrink=3, cost=-1), item(5)]
        self.check(pair, 16, [(0, 1, 0)])
        self.check(pair, 15, [(0, 1, 1)])
        self.check([item(10, space=4, shrink=3), item(5)], 16, [(0, 1, 0)])
        self.check([item(10, space=4, shrink=3), item(5)], 15, [(0, 0, 0), (1, 1, 0)])

    def test_the_shrink_behind_the_last_item_is_of_no_account(self):
        self.check([item(10, cost=-1), item(5, space=9, shrink=9)], 12, [(0, 1, 3)])
        self.check([item(10, space=9, shrink=9)], 5, [(0, 0, 5)])

    def test_stretches_change_nothing(self):
        for stretch in (0, 5, MILLION):
            self.check([item(4, space=2, stretch=stretch)] * 5, 11, [(0, 1, 0), (2, 3, 0), (4, 4, 0)])


class Costs(OneRow):
    def test_the_last_line_may_be_short_at_no_cost(self):
        self.check([item(10), item(10), item(10)], 20, [(0, 1, 0), (2, 2, 0)])

    def test_a_last_line_that_must_shrink_costs(self):
        """One line: 4 for the slack -2. Two lines: 1 for the slack 1 of the first one, and 2 for its break."""
        items = [item(9, space=3, shrink=3, cost=2), item(0)]
        self.check(items, 10, [(0, 0, 0), (1, 1, 0)])
        items = [item(9, space=3, shrink=3, cost=4), item(0)]
        self.check(items, 10, [(0, 1, 0)])

    def test_slack_counts_as_much_below_0_as_above(self):
        """The first line's slack is 3 or -2, or 2 or -3."""
        self.check([item(7, space=2, shrink=2), item(3, space=2), item(5)], 10, [(0, 1, 0), (2, 2, 0)])
        self.check([item(8, space=3, shrink=3), item(2, space=3), item(5)], 10, [(0, 0, 0), (1, 2, 0)])

    def test_what_a_break_costs(self):
        """Two items in the first line cost what the break does, one costs 16; if that's the same, it ends earlier."""
        for cost, end in ((0, 1), (15, 1), (16, 0), (17, 0)):
            self.check([item(6), item(4, cost=cost), item(1), item(5)], 10, [(0, end, 0), (end + 1, 3, 0)])
        for cost, end in ((0, 0), (1, 1)):
            self.check([item(6, cost=cost), item(4, cost=16), item(1), item(5)], 10, [(0, end, 0), (end + 1, 3, 0)])

    def test_the_last_items_own_cost_is_of_no_account(self):
        for cost in (-1, 0, 7, MILLION):
            self.check([item(6), item(4, cost=cost)], 6, [(0, 0, 0), (1, 1, 0)])
            self.check([item(6), item(4, cost=cost)], 10, [(0, 1, 0)])

    def test_no_break_behind_a_cost_of_minus_1(self):
        self.check([item(6, cost=-1), item(6), item(6)], 6, [(0, 1, 6), (2, 2, 0)])
        self.check([item(6), item(6, cost=-1), item(6)], 6, [(0, 0, 0), (1, 2, 6)])

    def test_all_costs_minus_1(self):
        for size in (1, 2, 5, 600):
            for measure in (0, 10, FARTHEST):
                self.check([item(6, cost=-1)] * size, measure, [(0, size - 1, max(0, 6 * size - measure))])


class Better(OneRow):
    def test_less_overfull_goes_before_cost(self):
        """Lines of one item are overfull by 1 together, at whatever cost of the breaks; other lines by more."""
        items = [item(5, cost=MILLION), item(6, cost=MILLION), item(5)]
        self.check(items, 5, [(0, 0, 0), (1, 1, 1), (2, 2, 0)])

    def test_cost_goes_before_fewer_lines(self):
        """One line costs 64, two cost 25 and what the break costs; if that's the same, fewer lines are better."""
        def items(cost):
            return [item(5, space=8, shrink=8, cost=cost), item(5)]
        self.check(items(0), 10, [(0, 0, 0), (1, 1, 0)])
        self.check(items(38), 10, [(0, 0, 0), (1, 1, 0)])
        self.check(items(39), 10, [(0, 1, 0)])
        self.check(items(40), 10, [(0, 1, 0)])

    def test_fewer_lines(self):
        self.check([item(0)] * 4, 0, [(0, 3, 0)])
        self.check([item(10), item(0), item(0)], 10, [(0, 2, 0)])

    def test_the_earlier_end(self):
        """The first line's slack is 2 with one item, -2 with two."""
        self.check([item(8, space=2, shrink=2), item(2, space=1), item(5)], 10, [(0, 0, 0), (1, 2, 0)])

    def test_the_earlier_end_of_a_later_line(self):
        items = [item(10), item(8, space=2, shrink=2), item(2, space=1), item(5)]
        self.check(items, 10, [(0, 0, 0), (1, 1, 0), (2, 3, 0)])

    def test_the_earlier_end_of_each_line(self):
        """Items of no width may stand at the end of one line or at the beginning of the next."""
        items = [item(10), item(0), item(0), item(10), item(0), item(10)]
        self.check(items, 10, [(0, 0, 0), (1, 3, 0), (4, 5, 0)])
        items[0] = item(10, cost=-1)
        self.check(items, 10, [(0, 1, 0), (2, 3, 0), (4, 5, 0)])
        items[3] = item(10, cost=1)
        self.check(items, 10, [(0, 1, 0), (2, 4, 0), (5, 5, 0)])


class BlockLines(unittest.TestCase):
    def test_height_and_depth_are_the_greatest_of_the_line(self):
        items = [item(5, height=3, depth=-7), item(5, height=9, depth=-4), item(5, height=-5, depth=8)]
        told = answer(settings(10, 0, 0, 0, 0, 0), add(row(*items, indent=0)), lines())
        self.assertEqual(in_groups(told, 6), [(0, 0, 1, 9, -4, 0), (0, 2, 2, -5, 8, 0)])

    def test_a_display(self):
        for width, overfull in ((0, 0), (99, 0), (100, 0), (101, 1), (MILLION, MILLION - 100)):
            for way in (0, 1, 2):
                told = answer(
                    settings(100, 90, 5, 5, 5, 5), add(display(width, way=way, height=-3, depth=MILLION)), lines()
                )
                self.assertEqual(told, [0, 0, 0, 0, -3, MILLION, overfull])

    def test_blocks_in_order(self):
        calls = [settings(90, 0, 0, 0, 0, 0), add(display()), add(paragraph(3, indent=0)), add(display(91))]
        self.assertEqual(in_groups(answer(*calls, lines()), 6), [
            (0, 0, 0, 9, 3, 0), (1, 0, 1, 7, 3, 0), (1, 2, 2, 7, 3, 0), (2, 0, 0, 9, 3, 1),
        ])

    def test_each_paragraph_has_its_own_first_indent_and_all_the_same_indent(self):
        calls = [settings(30, 10, 0, 0, 0, 0)]
        calls += [add(row(*[item(10)] * 4, indent=indent)) for indent in (0, 10, 20)]
        spans = [line[:3] for line in in_groups(answer(*calls, lines()), 6)]
        self.assertEqual(spans, [(0, 0, 2), (0, 3, 3), (1, 0, 1), (1, 2, 3), (2, 0, 0), (2, 1, 2), (2, 3, 3)])

    def test_page_lead_gap_and_orphan_are_of_no_account(self):
        wanted = answer(settings(90, 3, 0, 0, 0, 0), add(paragraph(7)), lines())
        self.assertEqual(answer(settings(90, 3, 9, 8, 7, -1), add(paragraph(7)), lines()), wanted)


def drawn_item(chance, most, costs):
    space = chance.choice((0, 0, 1, 2, 3, most))
    shrink = chance.choice((0, space, chance.randint(0, space)))
    return item(chance.randint(0, most), space, shrink, chance.choice(costs), chance.randint(0, 9))


def drawn_row(chance, sizes):
    most = chance.choice((0, 1, 2, 3, 5, 10))
    costs = chance.choice(((0,), (0, 1), (-1, 0), (-1, 0, 1, 4, 9), (-1, -1, 0, 50), (-1,)))
    return [drawn_item(chance, most, costs) for each in range(chance.randint(*sizes))]


def drawn_measures(chance):
    """The measure, the first indent and the indent."""
    measure = chance.choice((0, 1, 2, 3, 5, 8, 10, 13, 20, 30))
    return measure, chance.choice((0, 0, 1, 2, measure, 2 * measure, 40)), chance.choice((0, 0, 1, 3, measure, 12, 40))


class AgainstAllBreakings(unittest.TestCase):
    def test_small_rows(self):
        steps = dict.fromkeys((1, 2, 3, 4), 0)
        kinds = dict.fromkeys(("below 0", "first below 0", "saved", "one line", "hanging", "overfull"), 0)
        chance = random.Random(8)
        for turn in range(6000):
            items, measures = drawn_row(chance, (1, 8)), drawn_measures(chance)
            best = best_lines(items, *measures)
            with self.subTest(items=items, measures=measures):
                self.assertEqual(set_row(items, *measures), [(line[0], line[1], line[3]) for line in best])
            for step in deciding_steps(items, *measures):
                steps[step] += 1
            measure, first_indent, indent = measures
            kinds["first below 0"] += first_indent > measure
            kinds["below 0"] += indent > measure and len(best) > 1
            kinds["saved"] += any(slack < 0 and overfull == 0 for first, last, slack, overfull, cost in best)
            kinds["one line"] += len(items) > 1 and all(each[6] == -1 for each in items)
            kinds["hanging"] += indent > first_indent and len(best) > 2
            kinds["overfull"] += len(best) > 1 and any(line[3] for line in best)
        self.assertGreater(min(steps.values()), 50, steps)
        self.assertGreater(min(kinds.values()), 50, kinds)

    def test_every_row_of_few_small_numbers(self):
        """All rows of three items with widths, spaces and costs from a few, so that ties are many."""
        choices = [item(width, space, space, cost) for width in (0, 1) for space in (0, 1) for cost in (-1, 0, 1)]
        for first in choices:
            for second in choices:
                for third in choices[::3]:
                    items = [first, second, third]
                    for measures in ((0, 0, 0), (1, 0, 1), (1, 2, 0), (2, 1, 0)):
                        wanted = [(line[0], line[1], line[3]) for line in best_lines(items, *measures)]
                        self.assertEqual(set_row(items, *measures), wanted, (items, measures))


def broken(items, measure, first_indent, indent):
    """What breaking itself gives for a row, as the plain search tells it."""
    given = [RowItem(each[0], each[3], each[5], each[6]) for each in items]
    spans = best_breaking(given, measure - first_indent, measure - indent)
    return [(span.first, span.last, span.slack, span.overfull, span.cost) for span in spans]


class BreakingItself(unittest.TestCase):
    def test_an_empty_row_has_no_line(self):
        self.assertEqual(breakings([]), [()])
        for measures in ((0, 0, 0), (5, 0, 0), (0, 9, 9)):
            self.assertEqual(broken([], *measures), [])

    def test_slack_and_cost_of_each_line(self):
        chance = random.Random(9)
        for turn in range(6000):
            items, measures = drawn_row(chance, (1, 7)), drawn_measures(chance)
            self.assertEqual(broken(items, *measures), best_lines(items, *measures), (items, measures))

    def test_longer_rows(self):
        chance = random.Random(10)
        for turn in range(600):
            items, measures = drawn_row(chance, (9, 60)), drawn_measures(chance)
            ends = tuple(line[1] for line in broken(items, *measures))
            self.assertEqual(ends, best_ends_by_sums(items, *measures), (items, measures))


if __name__ == "__main__":
    unittest.main()
