"""Lines, pages and places answer for the object as it is now: at first, behind each change, and behind a refusal."""

import random
import unittest

from tests.plain import Plain
from tests.telling import (
    FAR, OK, add, answer, at, block, change, count, display, lines, move, pages, paragraph, place, places, put, run,
    settings, take, worth,
)
from tests.test_pages import drawn_block, drawn_settings

SIX = (100, 3, 12, 2, 25, 50)
BLOCKS = [paragraph(5), display(), paragraph(2, head=(9, 0, 4, 7), indent=0), display(120, way=2)]
START = [settings(*SIX), *map(add, BLOCKS)]
ASKED = [
    lines(), pages(), worth(), *[places(i) for i in range(5)], place(0, 4), place(3, 0), place(1, 1), at(0, 20, -5),
    at(1, 20, -5), at(2, -5, -5), count(),
]


def plain_answers(plain):
    return [
        plain.lines(), plain.pages(), plain.worth(), *[plain.places(i) for i in range(5)], plain.place(0, 4),
        plain.place(3, 0), plain.place(1, 1), plain.at(0, 20, -5), plain.at(1, 20, -5), plain.at(2, -5, -5),
        plain.count(),
    ]


class NoBlocks(unittest.TestCase):
    def check_nothing(self, *calls):
        asked = [lines(), pages(), worth(), count(), at(0, 0, 0), at(-1, 0, 0), at(FAR, FAR, -FAR)]
        wanted = [OK, OK, [0, 0, 0, 0, 0, 0], [0, 0, 0], OK, OK, OK]
        self.assertEqual(run(*calls, *asked)[len(calls):], wanted)
        for i in (0, -1, 1, FAR, -FAR):
            self.assertEqual(answer(*calls, places(i)), [-5])
            for k in (0, -1, 1, FAR, -FAR):
                self.assertEqual(answer(*calls, place(i, k)), [-5])

    def test_at_the_beginning(self):
        self.check_nothing()
        self.check_nothing(settings(100, 3, 12, 2, 40, 50))
        self.check_nothing(settings(0, 100000000, 1000000, 1000000, 0, -1))

    def test_when_all_are_taken_out(self):
        self.check_nothing(*START, *[take(0)] * 4)
        self.check_nothing(add(display()), lines(), pages(), places(0), take(0))

    def test_when_all_are_refused(self):
        self.check_nothing(add([]), add(display(way=3)), add(paragraph(601)), put(1, display()), change(0, display()))


class AtTheBeginning(unittest.TestCase):
    def test_all_settings_are_0(self):
        held = [paragraph(2), display(7, way=1), paragraph(1, head=(4, 0, 0, -1))]
        plain = Plain((0, 0, 0, 0, 0, 0), held)
        self.assertEqual(run(*map(add, held), *ASKED)[3:], plain_answers(plain))
        self.assertEqual(run(settings(0, 0, 0, 0, 0, 0), *map(add, held), *ASKED)[4:], plain_answers(plain))


class Settings(unittest.TestCase):
    """What settings keeps shows in the answers."""

    def check(self, numbers):
        wanted = plain_answers(Plain(numbers, BLOCKS))
        self.assertEqual(run(*START, *ASKED, settings(*numbers), *ASKED)[-len(ASKED):], wanted)
        self.assertEqual(run(*map(add, BLOCKS), settings(*numbers), *ASKED)[-len(ASKED):], wanted)
        return wanted

    def test_each_of_the_six(self):
        before = self.check(SIX)
        for place_of, number in enumerate((60, 61, 30, 9, 22, -1)):
            numbers = list(SIX)
            numbers[place_of] = number
            self.assertNotEqual(self.check(numbers), before, place_of)

    def test_the_lowest_and_the_highest(self):
        self.check((0, 0, 0, 0, 0, -1))
        self.check((100000000, 100000000, 1000000, 1000000, 100000000, 1000000))
        self.check((100000000, 0, 1000000, 0, 0, 0))

    def test_a_refusal_leaves_them(self):
        wanted = run(*START, *ASKED)[-len(ASKED):]
        for place_of in range(6):
            for number in (-2, 100000001, FAR, -FAR):
                numbers = [1, 2, 3, 4, 5, 6]
                numbers[place_of] = number
                told = run(*START, settings(*numbers), *ASKED)
                self.assertEqual(told[-len(ASKED) - 1:], [[-4], *wanted])


class Changes(unittest.TestCase):
    NEW = paragraph(4, head=(3, 0, 2, 1), indent=25)

    def check(self, call, held):
        """Asked before the change too, so that nothing from then may be left."""
        wanted = plain_answers(Plain(SIX, held))
        self.assertEqual(run(*START, *ASKED, call, *ASKED)[-len(ASKED):], wanted, call)
        self.assertEqual(run(*START, call, *ASKED)[-len(ASKED):], wanted, call)

    def test_add(self):
        self.check(add(self.NEW), [*BLOCKS, self.NEW])

    def test_put(self):
        for i in range(5):
            self.check(put(i, self.NEW), [*BLOCKS[:i], self.NEW, *BLOCKS[i:]])

    def test_change(self):
        for i in range(4):
            self.check(change(i, self.NEW), [*BLOCKS[:i], self.NEW, *BLOCKS[i + 1:]])

    def test_take(self):
        for i in range(4):
            self.check(take(i), [*BLOCKS[:i], *BLOCKS[i + 1:]])

    def test_move(self):
        for i in range(4):
            for j in range(4):
                held = list(BLOCKS)
                held.insert(j, held.pop(i))
                self.check(move(i, j), held)

    def test_refusals(self):
        refused = [
            settings(-1, 0, 0, 0, 0, 0), add([]), add(display(way=3)), add(paragraph(601)), put(5, self.NEW),
            put(0, []), put(0, display(way=3)), put(0, paragraph(601)), change(4, self.NEW), change(0, []),
            change(0, display(way=3)), change(0, paragraph(601)), take(4), move(0, 4), move(4, 0), block(4),
            place(4, 0), place(0, 5), places(4),
        ]
        for call in refused:
            self.check(call, BLOCKS)
            told = answer(*START, call)
            self.assertEqual((len(told), told[0] < 0), (1, True))

    def test_asking_changes_nothing(self):
        for call in ASKED:
            self.check(call, BLOCKS)
        self.assertEqual(run(*START, *ASKED, *map(block, range(4)))[-4:], [OK + told for told in BLOCKS])

    def test_how_many(self):
        calls = [count(), add(self.NEW), count(), change(1, self.NEW), count(), take(0), count(), move(0, 1), count()]
        told = run(*START, *calls)[len(START):]
        self.assertEqual(told[::2], [[0, 4, 7], [0, 5, 11], [0, 5, 15], [0, 4, 10], [0, 4, 10]])

    def test_how_many_items_are_in_paragraphs_alone(self):
        self.assertEqual(answer(add(display()), add(display()), count()), [0, 2, 0])
        self.assertEqual(answer(add(paragraph(600)), add(display()), count()), [0, 2, 600])


class LongLists(unittest.TestCase):
    """All fourteen calls in long lists, against the plain words."""

    def drawn_change(self, chance, held):
        """A change that isn't refused, as a call, and the blocks behind it."""
        i = chance.randrange(len(held)) if held else 0
        new = drawn_block(chance, chance.choice((0, -5)))
        name = chance.choice(("put", "change", "take", "move") if len(held) > 3 else ("add", "put"))
        if name == "add":
            return add(new), [*held, new]
        if name == "put" and len(held) < 5:
            return put(i, new), [*held[:i], new, *held[i:]]
        rest = [*held[:i], *held[i + 1:]]
        if name in ("put", "change"):
            return change(i, new), [*rest[:i], new, *rest[i:]]
        if name == "take":
            return take(i), rest
        j = chance.randrange(len(held))
        return move(i, j), [*rest[:j], held[i], *rest[j:]]

    def test_changes_with_questions_between(self):
        for seed in range(40):
            chance = random.Random(seed)
            numbers, held, calls, wanted = (0,) * 6, [], [], []
            while len(calls) + 16 <= 200:
                if chance.random() < 0.3:
                    numbers = drawn_settings(chance)
                    calls.append(settings(*numbers))
                else:
                    call, held = self.drawn_change(chance, held)
                    calls.append(call)
                wanted.append(OK)
                asked = chance.sample(range(len(ASKED)), chance.choice((0, 1, 4)))
                told = plain_answers(Plain(numbers, held))
                calls += [ASKED[k] for k in asked]
                wanted += [told[k] for k in asked]
            self.assertEqual(run(*calls), wanted)


if __name__ == "__main__":
    unittest.main()
