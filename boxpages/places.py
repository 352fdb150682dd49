"""Where items stand: for each the page, the x of its left edge and the y of its line's baseline."""

from boxpages.blocks import (
    CENTRED, DEPTH_PLACE, DISPLAY_WIDTH_PLACE, FIRST_INDENT_PLACE, HEIGHT_PLACE, LEFT, SPACE_PLACE, WAY_PLACE,
    WIDTH_PLACE, is_paragraph, items_between,
)
from boxpages.settings import INDENT, MEASURE


class Spot:
    """Where an item stands."""

    def __init__(self, page, x, y):
        self.page = page
        self.x = x
        self.y = y

    def told(self):
        return [self.page, self.x, self.y]


def baselines(lines, row, span):
    """The y of the baseline of each line of a page."""
    ys = []
    upper = 0
    for number in range(span.first, span.last + 1):
        ys.append(upper - lines[number].height)
        upper -= row[number].width + row[number].space
    return ys


def display_x(block, settings):
    spare = settings[MEASURE] - block[DISPLAY_WIDTH_PLACE]
    if block[WAY_PLACE] == LEFT:
        return 0
    return spare // 2 if block[WAY_PLACE] == CENTRED else spare


def item_xs(line, block, settings):
    """The x of each item of the line."""
    if not is_paragraph(block):
        return [display_x(block, settings)]
    xs = []
    x = block[FIRST_INDENT_PLACE] if line.opens else settings[INDENT]
    for item in items_between(block, line.first, line.last):
        xs.append(x)
        x += item[WIDTH_PLACE] + item[SPACE_PLACE]
    return xs


def item_spots(lines, row, pages, blocks, settings):
    """For each block a list of where its items stand."""
    spots = [[] for block in blocks]
    for page, span in enumerate(pages):
        on_page = lines[span.first:span.last + 1]
        for line, y in zip(on_page, baselines(lines, row, span)):
            xs = item_xs(line, blocks[line.owner], settings)
            spots[line.owner].extend([Spot(page, x, y) for x in xs])
    return spots


def covers(spot, size, x, y):
    """Whether an item of this size that stands there has the point in its box."""
    if not spot.x <= x < spot.x + size[WIDTH_PLACE]:
        return False
    return spot.y - size[DEPTH_PLACE] <= y < spot.y + size[HEIGHT_PLACE]
