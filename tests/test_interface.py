"""The interface: how calls stand in the list, how answers stand behind one another, and what is left alone."""

import random
import sys
import unittest

from boxpages.desk import answers
from tests.telling import (
    OK, add, at, block, change, count, display, join, lines, move, pages, paragraph, parted, place, places, put, run,
    settings, take, worth,
)

CHANGERS = (
    "__delitem__", "__iadd__", "__imul__", "__setitem__",
    "append", "clear", "extend", "insert", "pop", "remove", "reverse", "sort",
)


class Untouchable(list):
    """A list that says so when something tries to change it, if only for a while."""


def refuse_change(self, *given):
    raise AssertionError("the list that was handed in is changed")


for changer in CHANGERS:
    setattr(Untouchable, changer, refuse_change)


MIXED = join([
    settings(100, 0, 12, 2, 40, 50),
    add(paragraph(3)),
    add(display()),
    put(1, display(width=7)),
    put(9, display()),
    change(0, paragraph(2)),
    change(0, []),
    move(0, 2),
    block(2),
    lines(),
    pages(),
    worth(),
    place(2, 1),
    place(2, 2),
    places(2),
    places(3),
    at(0, 50, -5),
    count(),
    take(0),
    lines(),
    block(2),
    block(1),
])


class Layout(unittest.TestCase):
    def test_one_call_written_out(self):
        self.assertEqual(answers([0, 100, 0, 12, 2, 40, 50]), [1, 0])
        self.assertEqual(answers([0, 100, 0, 12, 2, 40, -2]), [1, -4])
        self.assertEqual(answers([1, 9, 4, 0, 0, 0, 1, 1, 30, 9, 3]), [1, 0])
        self.assertEqual(answers([1, 0]), [1, -1])
        self.assertEqual(answers([2, 0, 9, 4, 0, 0, 0, 1, 1, 30, 9, 3]), [1, 0])
        self.assertEqual(answers([2, 1, 0]), [1, -5])
        self.assertEqual(answers([3, 0, 9, 4, 0, 0, 0, 1, 1, 30, 9, 3]), [1, -5])
        self.assertEqual(answers([4, 0]), [1, -5])
        self.assertEqual(answers([5, 0, 0]), [1, -5])
        self.assertEqual(answers([6, 0]), [1, -5])
        self.assertEqual(answers([7]), [1, 0])
        self.assertEqual(answers([8]), [1, 0])
        self.assertEqual(answers([9]), [6, 0, 0, 0, 0, 0, 0])
        self.assertEqual(answers([10, 0, 0]), [1, -5])
        self.assertEqual(answers([11, 0]), [1, -5])
        self.assertEqual(answers([12, 0, 0, 0]), [1, 0])
        self.assertEqual(answers([13]), [3, 0, 0, 0])

    def test_questions_of_one_display(self):
        """Its x is 35, its baseline at -9, its box goes from 35 to 65 and from -12 to 0."""
        start = [0, 100, 0, 12, 2, 40, 50, 1, 9, 4, 0, 0, 0, 1, 1, 30, 9, 3]
        asked = [7, 8, 9, 10, 0, 0, 10, 0, 1, 11, 0, 11, 1, 12, 0, 35, -12, 12, 1, 35, -12, 13]
        wanted = [7, 0, 0, 0, 0, 9, 3, 0, 5, 0, 0, 0, 28, 0, 6, 0, 0, 0, 0, 1, 1, 4, 0, 0, 35, -9, 1, -6]
        wanted += [4, 0, 0, 35, -9, 1, -5, 3, 0, 0, 0, 1, 0, 3, 0, 1, 0]
        self.assertEqual(answers(start + asked), [1, 0, 1, 0] + wanted)

    def test_each_answer_stands_behind_the_one_before(self):
        first = [6, 0, 0, 0, 0, 10, 40, 7, 3, 5, 0, 0, 0]
        second = [4, 0, 0, 0, 1, 1, 30, 9, 3]
        calls = [1, 13, *first, 2, 0, 9, *second, 6, 0, 6, 1, 5, 0, 1, 6, 0, 3, 0, 9, *second, 6, 0, 4, 1, 6, 1]
        wanted = [1, 0, 1, 0, 10, 0, *second, 14, 0, *first, 1, 0, 14, 0, *first, 1, 0, 10, 0, *second, 1, 0, 1, -5]
        self.assertEqual(answers(calls), wanted)

    def test_a_refused_row_is_gone_past(self):
        for told in ([], [6], [6, 6, 6, 6, 6, 6], paragraph(601), [0] * 10000):
            self.assertEqual(len(run(add(told), add(display()), block(0))), 3)
            self.assertEqual(run(put(-1, told), add(display()), block(0)), [[-5], OK, OK + display()])
            self.assertEqual(run(change(0, told), add(display()), block(0)), [[-5], OK, OK + display()])

    def test_200_calls(self):
        self.assertEqual(run(*[add(display()), take(0)] * 100), [OK] * 200)

    def test_as_many_numbers_as_a_list_may_have(self):
        calls = [add(paragraph(600)), add([0] * 10000), add([0] * 2784), block(0), block(1)]
        self.assertEqual(len(join(calls)), 17000)
        self.assertEqual(run(*calls), [OK, [-1], [-1], OK + paragraph(600), [-5]])

    def test_a_list_of_whole_numbers_is_given_back(self):
        given = answers(MIXED)
        self.assertIs(given.__class__, list)
        self.assertEqual({number.__class__ for number in given}, {int})


class LeftAlone(unittest.TestCase):
    def test_the_list_is_the_same_afterwards(self):
        handed = list(MIXED)
        answers(handed)
        self.assertEqual(handed, MIXED)

    def test_the_list_is_not_changed_for_a_while_either(self):
        self.assertEqual(answers(Untouchable(MIXED)), answers(MIXED))

    def test_the_same_list_gets_the_same_answer(self):
        first = answers(MIXED)
        kept = list(first)
        answers(add(paragraph(600)))
        second = answers(MIXED)
        self.assertEqual(second, kept)
        first.clear()
        self.assertEqual(answers(MIXED), kept)

    def test_every_list_has_a_new_object(self):
        answers(add(display()))
        self.assertEqual(run(block(0)), [[-5]])


class Loops(unittest.TestCase):
    def test_nothing_nests_deeper_for_longer_rows(self):
        """The largest cases are gone through with few calls within one another."""
        tall = join([add(paragraph(600)), *[lines(), pages(), worth(), places(0), at(0, 0, 0)] * 2])
        many = join([*[add(display())] * 60, *[lines(), pages(), worth(), places(59), at(0, 0, 0)] * 20])
        wanted = [answers(tall), answers(many)]
        before = sys.getrecursionlimit()
        sys.setrecursionlimit(self.depth() + 40)
        try:
            told = [answers(tall), answers(many)]
        finally:
            sys.setrecursionlimit(before)
        self.assertEqual(told, wanted)

    def depth(self):
        frame = sys._getframe()
        found = 0
        while frame is not None:
            frame = frame.f_back
            found += 1
        return found


class Model:
    """The seven calls once more, in another way, for comparison."""

    def __init__(self):
        self.held = []

    def answer(self, name, i, j, told):
        """The blocks told here are well formed: how many may be held is all that can refuse them."""
        count = len(self.held)
        if name == "add":
            i = count
        last = count if name in ("add", "put") else count - 1
        if i < 0 or i > last or (name == "move" and not 0 <= j <= last):
            return [-5]
        if name == "block":
            return OK + self.held[i]
        after = list(self.held)
        if name in ("take", "change", "move"):
            gone = after.pop(i)
        if name in ("add", "put", "change"):
            after.insert(i, told)
        if name == "move":
            after.insert(j, gone)
        if len(after) > 60 or sum(len(each) // 7 for each in after if each[4] == 0) > 600:
            return [-3]
        self.held = after
        return OK


def written(name, i, j, told):
    if name == "add":
        return add(told)
    if name in ("put", "change"):
        return {"put": put, "change": change}[name](i, told)
    if name == "move":
        return move(i, j)
    return {"take": take, "block": block}[name](i)


class AgainstModel(unittest.TestCase):
    def test_long_rows_of_calls(self):
        seen = set()
        for seed in range(60):
            chance = random.Random(seed)
            model, calls, wanted = Model(), [], []
            size = chance.choice((1, 10, 40))
            for step in range(200):
                name = chance.choice(("add", "add", "put", "put", "change", "take", "move", "block"))
                i, j = [chance.randrange(-1, len(model.held) + 2) for each in range(2)]
                told = paragraph(chance.randint(1, size)) if chance.random() < 0.5 else display(width=step)
                if sum(map(len, calls)) + len(told) + 4 > 17000:
                    break
                calls.append(written(name, i, j, told))
                wanted.append(model.answer(name, i, j, told))
                seen.add((name, wanted[-1][0]))
            self.assertEqual(run(*calls), wanted)
        self.assertLessEqual({("add", -3), ("put", -3), ("put", -5), ("move", 0), ("change", -3)}, seen)


if __name__ == "__main__":
    unittest.main()
