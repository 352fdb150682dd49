"""Point 1, and the settings under "Words"."""

import unittest

from boxpages.document import Document
from tests.telling import FAR, OK, add, block, display, run, settings

RANGES = (
    (0, 100000000),
    (0, 100000000),
    (0, 1000000),
    (0, 1000000),
    (0, 100000000),
    (-1, 1000000),
)
ORDINARY = (100, 5, 12, 2, 40, 50)


def with_number(place, number):
    numbers = list(ORDINARY)
    numbers[place] = number
    return numbers


class Settings(unittest.TestCase):
    def test_all_are_0_at_the_beginning(self):
        self.assertEqual(Document().settings, (0, 0, 0, 0, 0, 0))

    def test_they_are_the_settings_from_now_on(self):
        document = Document()
        self.assertEqual(document.settle(list(ORDINARY)), OK)
        self.assertEqual(document.settings, ORDINARY)
        self.assertEqual(document.settle([1, 2, 3, 4, 5, 6]), OK)
        self.assertEqual(document.settings, (1, 2, 3, 4, 5, 6))

    def test_lowest_and_highest_are_taken(self):
        for place, limits in enumerate(RANGES):
            for number in limits:
                with self.subTest(place=place, number=number):
                    self.assertEqual(run(settings(*with_number(place, number))), [OK])
        self.assertEqual(run(settings(*[low for low, high in RANGES])), [OK])
        self.assertEqual(run(settings(*[high for low, high in RANGES])), [OK])

    def test_one_beyond_is_refused(self):
        for place, (low, high) in enumerate(RANGES):
            for number in (low - 1, high + 1, -FAR, FAR):
                with self.subTest(place=place, number=number):
                    self.assertEqual(run(settings(*with_number(place, number))), [[-4]])

    def test_each_is_kept_in_its_own_place(self):
        for place, (low, high) in enumerate(RANGES):
            document = Document()
            document.settle(with_number(place, high))
            self.assertEqual(list(document.settings), with_number(place, high))

    def test_a_refusal_changes_no_setting(self):
        for place, (low, high) in enumerate(RANGES):
            for number in (low - 1, high + 1):
                document = Document()
                document.settle(list(ORDINARY))
                numbers = [1, 1, 1, 1, 1, 1]
                numbers[place] = number
                self.assertEqual(document.settle(numbers), [-4])
                self.assertEqual(document.settings, ORDINARY)

    def test_the_blocks_stay(self):
        told = display()
        for numbers in (ORDINARY, (-1, 0, 0, 0, 0, 0)):
            self.assertEqual(run(add(told), settings(*numbers), block(0))[2], OK + told)

    def test_blocks_leave_the_settings(self):
        document = Document()
        document.settle(list(ORDINARY))
        document.add(display())
        document.add([])
        document.take(0)
        self.assertEqual(document.settings, ORDINARY)


if __name__ == "__main__":
    unittest.main()
