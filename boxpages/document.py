"""The object that the calls are made on: it holds the settings and the blocks."""

from boxpages.blocks import block_refusal, item_total
from boxpages.layout import Layout
from boxpages.limits import DONE, all_within
from boxpages.settings import SETTINGS_AT_FIRST, SETTING_RANGES

BAD_SETTING = -4
NO_BLOCK = -5
NO_ITEM = -6


def without(blocks, i):
    return blocks[:i] + blocks[i + 1:]


def with_block(blocks, i, block):
    return blocks[:i] + [block] + blocks[i:]


class Document:
    """Each call answers a list of numbers; a refusal is its number alone, and nothing is changed then."""

    def __init__(self):
        self.hold(SETTINGS_AT_FIRST, [])

    def hold(self, settings, blocks):
        self.settings = settings
        self.blocks = blocks
        # Setting the blocks takes long, so it waits until it is asked for and is kept until something changes.
        self.layout = None

    def settle(self, numbers):
        if not all_within(numbers, SETTING_RANGES):
            return [BAD_SETTING]
        self.hold(tuple(numbers), self.blocks)
        return [DONE]

    def add(self, numbers):
        return self.place_among(self.blocks, len(self.blocks), numbers)

    def put(self, i, numbers):
        if not 0 <= i <= len(self.blocks):
            return [NO_BLOCK]
        return self.place_among(self.blocks, i, numbers)

    def change(self, i, numbers):
        if not self.has_block(i):
            return [NO_BLOCK]
        # The old block is left out first: its place and its items are free for the new one.
        return self.place_among(without(self.blocks, i), i, numbers)

    def take(self, i):
        if not self.has_block(i):
            return [NO_BLOCK]
        self.hold(self.settings, without(self.blocks, i))
        return [DONE]

    def move(self, i, j):
        if not self.has_block(i) or not self.has_block(j):
            return [NO_BLOCK]
        self.hold(self.settings, with_block(without(self.blocks, i), j, self.blocks[i]))
        return [DONE]

    def block(self, i):
        if not self.has_block(i):
            return [NO_BLOCK]
        return [DONE] + list(self.blocks[i])

    def lines(self):
        return [DONE] + self.laid_out().told_lines()

    def pages(self):
        return [DONE] + self.laid_out().told_pages()

    def worth(self):
        return [DONE] + self.laid_out().told_worth()

    def place(self, i, k):
        if not self.has_block(i):
            return [NO_BLOCK]
        if not self.laid_out().has_item(i, k):
            return [NO_ITEM]
        return [DONE] + self.laid_out().told_place(i, k)

    def places(self, i):
        if not self.has_block(i):
            return [NO_BLOCK]
        return [DONE] + self.laid_out().told_places(i)

    def at(self, page, x, y):
        return [DONE] + self.laid_out().told_at(page, x, y)

    def count(self):
        return [DONE, len(self.blocks), item_total(self.blocks)]

    def has_block(self, i):
        return 0 <= i < len(self.blocks)

    def laid_out(self):
        if self.layout is None:
            self.layout = Layout(self.settings, self.blocks)
        return self.layout

    def place_among(self, others, i, numbers):
        """The blocks become the others, with this one before the one at i, unless it is refused beside them."""
        refusal = block_refusal(numbers, others)
        if refusal != DONE:
            return [refusal]
        self.hold(self.settings, with_block(others, i, tuple(numbers)))
        return [DONE]
