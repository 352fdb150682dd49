"""The lines of blocks: a paragraph's are those of its best breaking, a display is one line."""

from boxpages.blocks import (
    DEPTH_PLACE, DISPLAY_WIDTH_PLACE, FIRST_INDENT_PLACE, HEIGHT_PLACE, ITEM_COST_PLACE, SPACE_PLACE,
    SPACE_SHRINK_PLACE, WIDTH_PLACE, is_paragraph, items_of, sizes_of,
)
from boxpages.breaking import RowItem, best_breaking
from boxpages.settings import INDENT, MEASURE


class BlockLine:
    """A line of the block whose number is its owner; it may open that block, close it, or both."""

    def __init__(self, owner, span, sizes):
        held = sizes[span.first:span.last + 1]
        self.owner = owner
        self.first = span.first
        self.last = span.last
        self.height = max([size[HEIGHT_PLACE] for size in held])
        self.depth = max([size[DEPTH_PLACE] for size in held])
        self.overfull = span.overfull
        self.opens = span.first == 0
        self.closes = span.last == len(sizes) - 1


def paragraph_row(block):
    return [
        RowItem(item[WIDTH_PLACE], item[SPACE_PLACE], item[SPACE_SHRINK_PLACE], item[ITEM_COST_PLACE])
        for item in items_of(block)
    ]


def block_spans(block, settings):
    measure = settings[MEASURE]
    if is_paragraph(block):
        return best_breaking(paragraph_row(block), measure - block[FIRST_INDENT_PLACE], measure - settings[INDENT])
    # A display is overfull by what a row of one item is without an indent.
    return best_breaking([RowItem(block[DISPLAY_WIDTH_PLACE], 0, 0, 0)], measure, measure)


def block_lines(blocks, settings):
    """All lines of all blocks, in order."""
    lines = []
    for owner, block in enumerate(blocks):
        sizes = sizes_of(block)
        lines.extend([BlockLine(owner, span, sizes) for span in block_spans(block, settings)])
    return lines
