"""Points 2 to 7: add, put, change, take, move, block."""

import unittest

from tests.telling import (
    FAR, OK, add, block, blocks_after, change, display, displays, move, paragraph, put, run, settings, take,
)

NEW = paragraph(2, head=(9, 8, 7, -1))
FIVE = displays(5)
START = [add(told) for told in FIVE]
FAR_OFF = (FAR, -FAR)


class Changes(unittest.TestCase):
    def check(self, call, wanted):
        """The call is answered by 0 alone, and these are the blocks then."""
        with self.subTest(call=call):
            self.assertEqual(run(*START, call)[5], OK)
            self.assertEqual(blocks_after(*START, call), wanted)

    def check_refused(self, call, refusal):
        with self.subTest(call=call):
            self.assertEqual(run(*START, call)[5], [refusal])
            self.assertEqual(blocks_after(*START, call), FIVE)

    def check_bad_blocks(self, tell):
        self.check_refused(tell([]), -1)
        self.check_refused(tell(display(way=3)), -2)
        self.check_refused(tell(paragraph(601)), -3)


class Add(Changes):
    def test_behind_all_others(self):
        self.assertEqual(blocks_after(add(NEW)), [NEW])
        self.check(add(NEW), FIVE + [NEW])

    def test_refused(self):
        self.check_bad_blocks(add)


class Put(Changes):
    def test_before_block_i(self):
        for i in range(5):
            self.check(put(i, NEW), FIVE[:i] + [NEW] + FIVE[i:])

    def test_behind_all(self):
        self.assertEqual(blocks_after(put(0, NEW)), [NEW])
        self.check(put(5, NEW), FIVE + [NEW])

    def test_no_such_place(self):
        for i in (-1, -5, -6, 6, *FAR_OFF):
            self.check_refused(put(i, NEW), -5)
        for i in (-1, 1, *FAR_OFF):
            self.assertEqual(run(put(i, NEW)), [[-5]])

    def test_refused(self):
        for i in (0, 3, 5):
            self.check_bad_blocks(lambda told: put(i, told))

    def test_the_place_is_asked_first(self):
        for told in ([], display(way=3), paragraph(601)):
            self.check_refused(put(6, told), -5)
            self.check_refused(put(-1, told), -5)


class Change(Changes):
    def test_block_i_is_this_one_now(self):
        for i in range(5):
            self.check(change(i, NEW), FIVE[:i] + [NEW] + FIVE[i + 1:])

    def test_to_itself(self):
        self.check(change(2, FIVE[2]), FIVE)

    def test_no_such_block(self):
        for i in (-1, -5, 5, 6, *FAR_OFF):
            self.check_refused(change(i, NEW), -5)
        for i in (-1, 0, *FAR_OFF):
            self.assertEqual(run(change(i, NEW)), [[-5]])

    def test_refused(self):
        for i in (0, 2, 4):
            self.check_bad_blocks(lambda told: change(i, told))

    def test_the_block_is_asked_first(self):
        for told in ([], display(way=3), paragraph(601)):
            self.check_refused(change(5, told), -5)
            self.check_refused(change(-1, told), -5)


class Take(Changes):
    def test_block_i_is_gone(self):
        for i in range(5):
            self.check(take(i), FIVE[:i] + FIVE[i + 1:])

    def test_until_none_is_left(self):
        self.assertEqual(run(*START, *[take(0)] * 6)[5:], [OK] * 5 + [[-5]])
        self.assertEqual(blocks_after(*START, *[take(0)] * 5), [])

    def test_no_such_block(self):
        for i in (-1, -5, 5, 6, *FAR_OFF):
            self.check_refused(take(i), -5)
        for i in (-1, 0, *FAR_OFF):
            self.assertEqual(run(take(i)), [[-5]])


class Move(Changes):
    def test_every_block_to_every_place(self):
        for i in range(5):
            for j in range(5):
                wanted = list(FIVE)
                moved = wanted.pop(i)
                wanted.insert(j, moved)
                self.assertEqual(wanted[j], FIVE[i])
                self.check(move(i, j), wanted)

    def test_a_block_alone(self):
        self.assertEqual(run(add(NEW), move(0, 0), move(0, 1), move(1, 0)), [OK, OK, [-5], [-5]])
        self.assertEqual(blocks_after(add(NEW), move(0, 0)), [NEW])

    def test_no_such_block_or_place(self):
        for wrong in (-1, -5, 5, 6, *FAR_OFF):
            for right in (0, 2, 4):
                self.check_refused(move(wrong, right), -5)
                self.check_refused(move(right, wrong), -5)
            self.check_refused(move(wrong, wrong), -5)

    def test_where_there_are_none(self):
        for i in (-1, 0, *FAR_OFF):
            self.assertEqual(run(move(i, i)), [[-5]])

    def test_where_all_places_are_taken(self):
        full = displays(60)
        calls = [add(told) for told in full] + [move(59, 0)]
        self.assertEqual(run(*calls)[60], OK)
        self.assertEqual(blocks_after(*calls), full[59:] + full[:59])


class Block(unittest.TestCase):
    def test_the_numbers_in_which_it_would_be_told(self):
        kinds = [
            paragraph(3, head=(9, 8, 7, -1), indent=11, item=(1, -2, -3, 6, 5, 4, -1)),
            display(head=(9, 8, 7, 6), way=2, width=5, height=-4, depth=-3),
            paragraph(1, head=(0, 0, 0, 0), indent=0, item=(0,) * 7),
            display(head=(0, 0, 0, 0), way=0, width=0, height=0, depth=0),
        ]
        calls = [add(told) for told in kinds]
        asked = [block(i) for i in range(4)]
        self.assertEqual(run(*calls, *asked)[4:], [OK + told for told in kinds])

    def test_what_it_answers_is_taken_again(self):
        told = paragraph(3)
        answer = run(add(told), block(0))[1]
        self.assertEqual(run(add(answer[1:]), block(0)), [OK, answer])

    def test_no_such_block(self):
        for i in (-1, -5, 5, 6, *FAR_OFF):
            self.assertEqual(run(*START, block(i))[5], [-5])
        for i in (-1, 0, *FAR_OFF):
            self.assertEqual(run(block(i)), [[-5]])

    def test_asking_changes_nothing(self):
        self.assertEqual(blocks_after(*START, block(0), block(4), block(5)), FIVE)


class Refusals(unittest.TestCase):
    def test_a_refused_call_is_as_if_it_was_never_made(self):
        refused = [
            settings(-1, 0, 0, 0, 0, 0), add([]), add(display(way=3)), add(paragraph(601)), put(9, NEW), put(0, []),
            put(0, display(way=3)), put(0, paragraph(601)), change(9, NEW), change(0, []), change(0, display(way=3)),
            change(0, paragraph(601)), take(9), move(0, 9), move(9, 0), block(9),
        ]
        after = [add(NEW), put(1, paragraph(595)), change(0, paragraph(3)), move(0, 3), take(1), *map(block, range(8))]
        wanted = run(*START, *after)[5:]
        for call in refused:
            told = run(*START, call, *after)[5:]
            self.assertLess(told[0][0], 0)
            self.assertEqual(len(told[0]), 1)
            self.assertEqual(told[1:], wanted)
        self.assertEqual(run(*START, *refused, *after)[5 + len(refused):], wanted)


if __name__ == "__main__":
    unittest.main()
