"""All numbers of the document's "Examples"."""

import unittest

from tests.telling import add, answer, at, block, count, lines, pages, place, places, run, settings, worth

PARAGRAPH = [6, 0, 0, 0, 0, 10] + [40, 7, 3, 5, 0, 0, 0] * 3
DISPLAY = [4, 0, 0, 0, 1, 1, 30, 9, 3]
START = [settings(100, 0, 12, 2, 40, 50), add(PARAGRAPH)]
BOTH = START + [add(DISPLAY)]
SHORTER = BOTH + [settings(100, 0, 12, 2, 39, 50)]


class Examples(unittest.TestCase):
    def test_lines(self):
        self.assertEqual(answer(*START, lines()), [0, 0, 0, 1, 7, 3, 0, 0, 2, 2, 7, 3, 0])
        self.assertEqual(answer(*BOTH, lines()), [0, 0, 0, 1, 7, 3, 0, 0, 2, 2, 7, 3, 0, 1, 0, 0, 9, 3, 0])

    def test_all_on_one_page(self):
        self.assertEqual(answer(*BOTH, pages()), [0, 0, 2, 0, 0])
        self.assertEqual(answer(*BOTH, worth()), [0, 0, 0, 0, 3, 1])

    def test_the_displays_place(self):
        self.assertEqual(answer(*BOTH, place(1, 0)), [0, 0, 35, -37])
        self.assertEqual(answer(*BOTH, places(1)), [0, 0, 35, -37])

    def test_the_paragraphs_places(self):
        """The lines' upper edges are at 0 and at -(10 + 2), their baselines 7 below; a first item is at 10, or at 0."""
        self.assertEqual(answer(*BOTH, places(0)), [0, 0, 10, -7, 0, 55, -7, 0, 0, -19])

    def test_on_a_page_of_39(self):
        self.assertEqual(answer(*SHORTER, pages()), [0, 0, 1, 17, 0, 2, 2, 27, 0])
        self.assertEqual(answer(*SHORTER, worth()), [0, 0, 0, 289, 3, 2])
        self.assertEqual(answer(*SHORTER, place(1, 0)), [0, 1, 35, -9])
        self.assertEqual(answer(*SHORTER, lines()), answer(*BOTH, lines()))

    def test_the_points_of_the_display(self):
        self.assertEqual(answer(*BOTH, at(0, 35, -37)), [0, 1, 0])
        self.assertEqual(answer(*BOTH, at(1, 35, -37)), [0])
        self.assertEqual(answer(*SHORTER, at(1, 35, -9)), [0, 1, 0])

    def test_how_many(self):
        self.assertEqual(answer(*BOTH, count()), [0, 2, 3])

    def test_all_in_one_list(self):
        told = run(*BOTH, lines(), pages(), place(1, 0), settings(100, 0, 12, 2, 39, 50), pages(), worth(), block(1))
        self.assertEqual(told[3], [0, 0, 0, 1, 7, 3, 0, 0, 2, 2, 7, 3, 0, 1, 0, 0, 9, 3, 0])
        self.assertEqual(told[4:7], [[0, 0, 2, 0, 0], [0, 0, 35, -37], [0]])
        self.assertEqual(told[7:], [[0, 0, 1, 17, 0, 2, 2, 27, 0], [0, 0, 0, 289, 3, 2], [0] + DISPLAY])


if __name__ == "__main__":
    unittest.main()
