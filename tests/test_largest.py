"""The largest cases: 600 items, 60 blocks, the greatest numbers of each range, 200 calls."""

import random
import unittest

from tests.plain import Plain, best_ends_by_sums, items_of, lines_of
from tests.telling import (
    OK, add, answer, at, change, count, display, in_groups, join, lines, move, pages, paragraph, place, places, row,
    run, settings, take, worth,
)

MILLION = 1000000
FARTHEST = 100000000
GREATEST_ITEM = (MILLION, MILLION, MILLION, MILLION, MILLION, MILLION, MILLION)
GREATEST_HEAD = (MILLION, MILLION, MILLION, MILLION)
ASKED = [lines(), pages(), worth(), places(0), count()]


class Fast(Plain):
    """The plain words where the rows are too long for every breaking to be tried."""

    def __init__(self, numbers, blocks):
        self.measure, self.indent, self.lead, self.gap, self.page, self.orphan = numbers
        self.blocks = blocks
        self.set_lines = self.all_lines()
        self.row = self.column()
        self.set_pages = self.best_lines(self.row, self.page, 0, 0)

    def best_lines(self, items, *measures):
        return lines_of(items, best_ends_by_sums(items, *measures), *measures)

    def all_lines(self):
        told = []
        for number, block in enumerate(self.blocks):
            items = items_of(block)
            first_indent, indent = (block[5], self.indent) if block[4] == 0 else (0, 0)
            for first, last, slack, overfull, cost in self.best_lines(items, self.measure, first_indent, indent):
                held = items[first:last + 1]
                told.append((number, first, last, max(i[1] for i in held), max(i[2] for i in held), overfull))
        return told


def drawn_items(chance, count, costs=(-1, 0, 0, 3)):
    items = []
    for each in range(count):
        space = chance.randint(0, 12)
        items.append((
            chance.randint(0, 60), chance.randint(-2, 12), chance.randint(-2, 5), space, chance.randint(0, 9),
            chance.randint(0, space), chance.choice(costs),
        ))
    return items


def drawn_blocks(chance, count, items_each):
    blocks = []
    for each in range(count):
        head = (chance.randint(5, 9), 3, chance.randint(0, 5), chance.choice((-1, 0, 5)))
        if chance.random() < 0.2:
            blocks.append(display(chance.randint(0, 400), head, chance.randint(0, 2), chance.randint(-3, 30), 4))
        else:
            blocks.append(row(*drawn_items(chance, items_each), head=head, indent=chance.randint(0, 30)))
    return blocks


class Largest(unittest.TestCase):
    def check(self, numbers, blocks):
        plain = Fast(numbers, blocks)
        told = run(settings(*numbers), *map(add, blocks), *ASKED)[-len(ASKED):]
        self.assertEqual(told[:3], [plain.lines(), plain.pages(), plain.worth()])
        self.assertEqual(told[4], plain.count())
        self.assertEqual(in_groups(told[3], 3)[-1], plain.spot(0, len(items_of(blocks[0])) - 1))


class SixHundredItems(Largest):
    def test_in_lines_of_every_length(self):
        chance = random.Random(600)
        block = row(*drawn_items(chance, 600), indent=20)
        for measure, page in ((0, 0), (50, 100), (400, 300), (9000, 40), (FARTHEST, FARTHEST)):
            self.check((measure, 5, 12, 2, page, 30), [block])

    def test_rooms_below_0(self):
        block = row(*drawn_items(random.Random(601), 600), indent=300)
        for indent in (101, 110, FARTHEST):
            self.check((100, indent, 12, 2, 100, -1), [block])

    def test_lines_of_one_item(self):
        block = row(*[(100, 7, 3, 5, 5, 5, 0)] * 600, indent=0)
        for measure, page, orphan in ((100, 0, 40), (0, 9, -1), (100, 500, 40), (0, 7198, -1), (100, FARTHEST, 0)):
            self.check((measure, 0, 12, 2, page, orphan), [block])

    def test_ties_everywhere(self):
        for measure in (0, 10):
            for page in (0, 10):
                self.check((measure, 0, 0, 0, page, 0), [row(*[(0, 0, 0, 0, 0, 0, 0)] * 600, indent=0)])
                self.check((measure, 0, 0, 0, page, 0), [row(*[(5, 5, 0, 0, 0, 0, 0)] * 600, indent=0)])
                self.check((measure, 0, 0, 0, page, 0), [row(*[(5, 5, 0, 9, 9, 9, 0)] * 600, indent=0)])

    def test_no_break_at_all(self):
        self.check((0, 0, 0, 0, 0, 0), [row(*[(5, 5, 0, 0, 0, 0, -1)] * 600, indent=0)])


class SixtyBlocks(Largest):
    def test_sixty_of_ten_items(self):
        for seed, page in ((1, 0), (2, 100), (3, 400), (4, FARTHEST)):
            chance = random.Random(seed)
            self.check((300, 5, 12, 2, page, 30), drawn_blocks(chance, 60, 10))

    def test_a_paragraph_of_600_among_59_displays(self):
        chance = random.Random(5)
        blocks = [row(*drawn_items(chance, 600), indent=20), *[display(k, way=k % 3) for k in range(59)]]
        self.check((300, 5, 12, 2, 200, 30), blocks)
        self.check((30, 5, 12, 2, 200, -1), blocks)
        self.check((0, 0, 0, 0, 0, 0), blocks)


class GreatestNumbers(Largest):
    def test_one_paragraph(self):
        block = row(*[GREATEST_ITEM] * 600, head=GREATEST_HEAD, indent=FARTHEST)
        for numbers in (
            (FARTHEST, FARTHEST, MILLION, MILLION, FARTHEST, MILLION), (FARTHEST, 0, MILLION, MILLION, FARTHEST, -1),
            (0, FARTHEST, 0, 0, 0, 0), (0, 0, 0, 0, 0, MILLION), (FARTHEST, FARTHEST // 2, 0, MILLION, 0, MILLION),
        ):
            self.check(numbers, [block])

    def test_unbroken(self):
        item = (MILLION, -MILLION, -MILLION, MILLION, 0, 0, -1)
        told = run(settings(0, 0, 0, 0, 0, 0), add(row(*[item] * 600, indent=FARTHEST)), lines(), worth())[2:]
        overfull = 1199 * MILLION + FARTHEST
        self.assertEqual(told, [[0, 0, 0, 599, -MILLION, -MILLION, overfull], [0, overfull, 0, 0, 1, 1]])

    def test_sixty_blocks(self):
        for height, depth in ((MILLION, MILLION), (-MILLION, -MILLION), (MILLION, -MILLION)):
            blocks = [row(*[GREATEST_ITEM] * 10, head=GREATEST_HEAD, indent=FARTHEST)]
            blocks += [display(MILLION, GREATEST_HEAD, k % 3, height, depth) for k in range(59)]
            self.check((FARTHEST, FARTHEST, MILLION, MILLION, FARTHEST, MILLION), blocks)
            self.check((0, 0, MILLION, 0, 0, -1), blocks)

    def test_costs_of_long_columns(self):
        """Sixty displays that may not be parted, the page being 0."""
        blocks = [display(0, (MILLION, 0, 0, -1), 0, MILLION, MILLION)] * 60
        told = run(settings(0, 0, 0, MILLION, 0, 0), *map(add, blocks), pages(), worth())[-2:]
        length = 60 * 2 * MILLION + 59 * 2 * MILLION
        self.assertEqual(told, [[0, 0, 59, -length, length], [0, 0, length, length ** 2, 60, 1]])


class TwoHundredCalls(Largest):
    def test_changes_and_questions(self):
        chance = random.Random(200)
        block = row(*drawn_items(chance, 600), indent=20)
        calls, wanted = [add(block), add(display())], [OK, OK]
        for turn in range(66):
            numbers = (200 + turn, turn % 7, 12, 2, 100 + turn, turn % 5 * 10)
            calls += [settings(*numbers), pages(), worth()]
            wanted += [OK, *run(add(block), add(display()), settings(*numbers), pages(), worth())[3:]]
            if turn % 20 == 0:
                plain = Fast(numbers, [block, display()])
                self.assertEqual(wanted[-2:], [plain.pages(), plain.worth()])
        self.assertEqual(len(calls), 200)
        self.assertEqual(run(*calls), wanted)

    def test_questions_alone(self):
        block = row(*drawn_items(random.Random(201), 600), indent=20)
        calls = [settings(300, 5, 12, 2, 200, 30), add(block)]
        for k in range(99):
            calls += [place(0, 6 * k), at(k % 5, 3 * k, -2 * k)]
        plain = Fast((300, 5, 12, 2, 200, 30), [block])
        self.assertEqual(run(*calls)[2::2], [plain.place(0, 6 * k) for k in range(99)])
        self.assertEqual(len(calls), 200)

    def test_the_longest_answers(self):
        block = row(*[(5, 7, 3, 0, 0, 0, 0)] * 600, indent=0)
        calls = [add(block), *[lines(), places(0)] * 99]
        told = run(*calls)
        self.assertEqual({len(each) for each in told[1::2]}, {3601})
        self.assertEqual({len(each) for each in told[2::2]}, {1801})

    def test_moves(self):
        blocks = [row(*drawn_items(random.Random(202), 590), indent=20), display(), paragraph(10)]
        numbers = (300, 5, 12, 2, 200, 30)
        orders = []
        calls = [settings(*numbers), *map(add, blocks)]
        held = list(blocks)
        for turn in range(98):
            i, j = turn % 3, turn // 2 % 3
            held.insert(j, held.pop(i))
            orders.append(list(held))
            calls += [move(i, j), worth()]
        told = run(*calls)[5::2]
        known = {}
        for order in orders:
            key = tuple(map(tuple, order))
            known[key] = known.get(key) or Fast(numbers, order).worth()
        self.assertGreater(len(known), 2)
        self.assertEqual(told, [known[tuple(map(tuple, order))] for order in orders])

    def test_as_many_numbers_as_a_list_may_have(self):
        full = paragraph(600)
        calls = [add(full), change(0, full), change(0, full), take(0), add(paragraph(20)), *[worth()] * 4]
        calls.append(add([0] * (17000 - len(join(calls)) - 2)))
        self.assertEqual(len(join(calls)), 17000)
        self.assertEqual(run(*calls)[5], answer(add(paragraph(20)), worth()))


if __name__ == "__main__":
    unittest.main()
