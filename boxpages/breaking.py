"""Rows broken into lines in the best of all ways.

The best way is looked for from the row's end: what is best from an item on doesn't depend on what stands before it.
"""

NEVER = -1

# A way to break what is left of a row: what it is overfull by, its cost, how many lines it has, and the last piece of
# its first line. They stand in this order so that the better of two ways is the smaller one.
OVERFULL_PLACE = 0
COST_PLACE = 1
COUNT_PLACE = 2
END_PLACE = 3
NOTHING_LEFT = (0, 0, 0, 0)


class RowItem:
    """An item as breaking sees it. It has no stretch: that bears on no cost."""

    def __init__(self, width, space, shrink, cost):
        self.width = width
        self.space = space
        self.shrink = shrink
        self.cost = cost


class Span:
    """A line of a breaking: its first item, its last one, and what is told of the line."""

    def __init__(self, first, last, slack, overfull, cost):
        self.first = first
        self.last = last
        self.slack = slack
        self.overfull = overfull
        self.cost = cost


class Pieces:
    """A row as pieces that no line may part, each up to where the row may be broken or ends.

    Sums run along the whole row, so that any line's width is a difference of two; the tight ones leave out what
    spaces can shrink by. Left ones go up to a piece's first item, right ones up to the end of its last one.
    """

    def __init__(self, row):
        self.first_items = []
        self.last_items = []
        self.costs = []
        self.lefts = []
        self.rights = []
        self.tight_lefts = []
        self.tight_rights = []
        self.gather(row)

    def gather(self, row):
        left = 0
        shrunk = 0
        begins = True
        for number, item in enumerate(row):
            right = left + item.width
            if begins:
                self.first_items.append(number)
                self.lefts.append(left)
                self.tight_lefts.append(left - shrunk)
            ends = item.cost != NEVER or number == len(row) - 1
            if ends:
                self.last_items.append(number)
                self.costs.append(item.cost)
                self.rights.append(right)
                self.tight_rights.append(right - shrunk)
            begins = ends
            left = right + item.space
            shrunk += item.shrink

    def last_piece(self):
        return len(self.costs) - 1

    def slack_of(self, start, end, room):
        return room - (self.rights[end] - self.lefts[start])

    def overfull_of(self, start, end, room):
        return max(0, self.tight_rights[end] - self.tight_lefts[start] - room)

    def cost_of(self, end, slack):
        """The cost of a line that ends with this piece and has this slack."""
        if end < self.last_piece():
            return slack * slack + self.costs[end]
        return slack * slack if slack < 0 else 0

    def span(self, start, end, room):
        slack = self.slack_of(start, end, room)
        overfull = self.overfull_of(start, end, room)
        return Span(self.first_items[start], self.last_items[end], slack, overfull, self.cost_of(end, slack))


def way_with(pieces, start, end, room, rest):
    """A line from the one piece to the other, and behind it the rest."""
    slack = pieces.slack_of(start, end, room)
    return (
        pieces.overfull_of(start, end, room) + rest[OVERFULL_PLACE],
        pieces.cost_of(end, slack) + rest[COST_PLACE],
        1 + rest[COUNT_PLACE],
        end,
    )


def best_way(pieces, start, farthest, room, ways):
    """The best way from a piece on whose first line ends with the farthest piece or before; ways has those behind.

    The ends are tried backward. The nearer the end, the more the rest is overfull, as it is longer, and the more slack
    the line has; and it is never less overfull than its first piece alone. So once a way of two lines would be worse
    by these alone, all nearer ends are worse too.
    """
    least = pieces.overfull_of(start, start, room)
    best = way_with(pieces, start, farthest, room, ways[farthest + 1])
    for end in range(farthest - 1, start - 1, -1):
        rest = ways[end + 1]
        slack = max(0, pieces.slack_of(start, end, room))
        if (least + rest[OVERFULL_PLACE], slack * slack, 2) > best:
            break
        if pieces.overfull_of(start, end, room) + rest[OVERFULL_PLACE] <= best[OVERFULL_PLACE]:
            best = min(best, way_with(pieces, start, end, room, rest))
    return best


def best_ways(pieces, first_room, room):
    """For each piece the best way to break the row from there on.

    What a line is overfull by and what it costs are convex in its width. So of two lines with the same room the one
    that begins earlier never does best to end later. The first line may have another room: it is tried with all ends.
    """
    last = pieces.last_piece()
    ways = [NOTHING_LEFT] * (last + 2)
    farthest = last
    for start in range(last, 0, -1):
        ways[start] = best_way(pieces, start, farthest, room, ways)
        farthest = ways[start][END_PLACE]
    ways[0] = best_way(pieces, 0, last, first_room, ways)
    return ways


def best_breaking(row, first_room, room):
    """The lines of the best breaking of a row; the first line has a room of its own."""
    if not row:
        return []
    pieces = Pieces(row)
    ways = best_ways(pieces, first_room, room)
    end = ways[0][END_PLACE]
    spans = [pieces.span(0, end, first_room)]
    while end < pieces.last_piece():
        start = end + 1
        end = ways[start][END_PLACE]
        spans.append(pieces.span(start, end, room))
    return spans
