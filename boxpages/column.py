"""The column: all lines as one row, which is broken into pages."""

from boxpages.blocks import BEFORE_PLACE, BEFORE_SHRINK_PLACE, BLOCK_COST_PLACE
from boxpages.breaking import RowItem
from boxpages.settings import GAP, LEAD, ORPHAN


def extent(line):
    """How much of the page the line itself takes up."""
    return max(0, line.height + line.depth)


def column_item(line, below, blocks, settings):
    """A line with what is between it and the one below it."""
    space = max(settings[GAP], settings[LEAD] - line.depth - below.height)
    if below.opens:
        opened = blocks[below.owner]
        cost = blocks[line.owner][BLOCK_COST_PLACE]
        return RowItem(extent(line), space + opened[BEFORE_PLACE], opened[BEFORE_SHRINK_PLACE], cost)
    return RowItem(extent(line), space, 0, settings[ORPHAN] if line.opens or below.closes else 0)


def column_row(lines, blocks, settings):
    row = [column_item(line, below, blocks, settings) for line, below in zip(lines, lines[1:])]
    return row + [RowItem(extent(line), 0, 0, 0) for line in lines[-1:]]
