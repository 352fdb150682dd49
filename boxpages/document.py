"""The object that the calls are made on: it holds the settings and the blocks."""

from boxpages.blocks import block_refusal
from boxpages.limits import DONE, all_within

BAD_SETTING = -4
NO_BLOCK = -5

# measure, indent, lead, gap, page, orphan
SETTING_RANGES = (
    (0, 100000000),
    (0, 100000000),
    (0, 1000000),
    (0, 1000000),
    (0, 100000000),
    (-1, 1000000),
)


def without(blocks, i):
    return blocks[:i] + blocks[i + 1:]


def with_block(blocks, i, block):
    return blocks[:i] + [block] + blocks[i:]


class Document:
    """Each call answers a list of numbers; a refusal is its number alone, and nothing is changed then."""

    def __init__(self):
        self.settings = (0, 0, 0, 0, 0, 0)
        self.blocks = []

    def settle(self, numbers):
        if not all_within(numbers, SETTING_RANGES):
            return [BAD_SETTING]
        self.settings = tuple(numbers)
        return [DONE]

    def add(self, numbers):
        return self.place_among(self.blocks, len(self.blocks), numbers)

    def put(self, i, numbers):
        if not 0 <= i <= len(self.blocks):
            return [NO_BLOCK]
        return self.place_among(self.blocks, i, numbers)

    def change(self, i, numbers):
        if not self.has_block(i):
            return [NO_BLOCK]
        # The old block is left out first: its place and its items are free for the new one.
        return self.place_among(without(self.blocks, i), i, numbers)

    def take(self, i):
        if not self.has_block(i):
            return [NO_BLOCK]
        self.blocks = without(self.blocks, i)
        return [DONE]

    def move(self, i, j):
        if not self.has_block(i) or not self.has_block(j):
            return [NO_BLOCK]
        self.blocks = with_block(without(self.blocks, i), j, self.blocks[i])
        return [DONE]

    def block(self, i):
        if not self.has_block(i):
            return [NO_BLOCK]
        return [DONE] + list(self.blocks[i])

    def has_block(self, i):
        return 0 <= i < len(self.blocks)

    def place_among(self, others, i, numbers):
        """The blocks become the others, with this one before the one at i, unless it is refused beside them."""
        refusal = block_refusal(numbers, others)
        if refusal != DONE:
            return [refusal]
        self.blocks = with_block(others, i, tuple(numbers))
        return [DONE]
