"""Blocks as they are set: their lines, the pages, and where the items stand."""

from boxpages.blocks import sizes_of
from boxpages.breaking import best_breaking
from boxpages.column import column_row
from boxpages.lines import block_lines
from boxpages.places import covers, item_spots
from boxpages.settings import PAGE


class Layout:
    """What the blocks come to under the settings, told as lists of numbers."""

    def __init__(self, settings, blocks):
        self.set_blocks = blocks
        self.set_lines = block_lines(blocks, settings)
        row = column_row(self.set_lines, blocks, settings)
        self.set_pages = best_breaking(row, settings[PAGE], settings[PAGE])
        self.spots = item_spots(self.set_lines, row, self.set_pages, blocks, settings)

    def told_lines(self):
        told = []
        for line in self.set_lines:
            told.extend([line.owner, line.first, line.last, line.height, line.depth, line.overfull])
        return told

    def told_pages(self):
        told = []
        for page in self.set_pages:
            told.extend([page.first, page.last, page.slack, page.overfull])
        return told

    def told_worth(self):
        return [
            sum([line.overfull for line in self.set_lines]),
            sum([page.overfull for page in self.set_pages]),
            sum([page.cost for page in self.set_pages]),
            len(self.set_lines),
            len(self.set_pages),
        ]

    def has_item(self, i, k):
        return 0 <= k < len(self.spots[i])

    def told_place(self, i, k):
        return self.spots[i][k].told()

    def told_places(self, i):
        told = []
        for spot in self.spots[i]:
            told.extend(spot.told())
        return told

    def told_at(self, page, x, y):
        told = []
        for i, block in enumerate(self.set_blocks):
            for k, size in enumerate(sizes_of(block)):
                spot = self.spots[i][k]
                if spot.page == page and covers(spot, size, x, y):
                    told.extend([i, k])
        return told
