"""The document's words once more, in the plainest way: every breaking is tried, and nothing is kept."""

from itertools import chain, combinations


def breakings(row):
    """All breakings of a row of items (width, height, depth, space, stretch, shrink, cost)."""
    if not row:
        return [()]
    free = [k for k, item in enumerate(row[:-1]) if item[6] != -1]
    chosen = chain.from_iterable(combinations(free, size) for size in range(len(free) + 1))
    return [(*inner, len(row) - 1) for inner in chosen]


def lines_of(row, ends, measure, first_indent, indent):
    """For each line of a breaking: its first item, its last one, its slack, what it's overfull by, its cost."""
    told = []
    first = 0
    for last in ends:
        held = row[first:last + 1]
        room = measure - (indent if told else first_indent)
        natural = sum(item[0] for item in held) + sum(item[3] for item in held[:-1])
        shrink = sum(item[5] for item in held[:-1])
        slack = room - natural
        overfull = max(-slack - shrink, 0)
        if last == len(row) - 1:
            cost = slack ** 2 if slack < 0 else 0
        else:
            cost = slack ** 2 + held[-1][6]
        told.append((first, last, slack, overfull, cost))
        first = last + 1
    return told


def ranked(row, measure, first_indent, indent):
    """All breakings, the best one first, each with the four things by which one is better than another."""
    found = []
    for ends in breakings(row):
        told = lines_of(row, ends, measure, first_indent, indent)
        found.append((sum(line[3] for line in told), sum(line[4] for line in told), len(told), ends))
    return sorted(found)


def best_lines(row, measure, first_indent, indent):
    ends = ranked(row, measure, first_indent, indent)[0][3]
    return lines_of(row, ends, measure, first_indent, indent)


def deciding_steps(row, measure, first_indent, indent):
    """The steps (1 to 4) that tell the best breaking from some other one."""
    best, *others = ranked(row, measure, first_indent, indent)
    return {[mine == its for mine, its in zip(best, other)].index(False) + 1 for other in others}


def best_ends_by_sums(row, measure, first_indent, indent):
    """The ends of the best breaking of a row too long for all breakings to be tried: best from each item on."""
    size = len(row)
    wide, tight = [0], [0]
    for width, height, depth, space, stretch, shrink, cost in row:
        wide.append(wide[-1] + width + space)
        tight.append(tight[-1] + width + space - shrink)
    best = {size: (0, 0, 0, ())}
    for first in reversed(range(size)):
        room = measure - (first_indent if first == 0 else indent)
        ways = []
        for last in range(first, size):
            if row[last][6] == -1 and last < size - 1:
                continue
            slack = room - (wide[last + 1] - wide[first] - row[last][3])
            overfull = max(0, tight[last + 1] - tight[first] - row[last][3] + row[last][5] - room)
            cost = slack ** 2 + row[last][6] if last < size - 1 else min(slack, 0) ** 2
            rest = best[last + 1]
            ways.append((overfull + rest[0], cost + rest[1], 1 + rest[2], (last, rest[3])))
        best[first] = min(ways)
    return unfolded(best[0][3])


def unfolded(pairs):
    ends = []
    while pairs:
        ends.append(pairs[0])
        pairs = pairs[1]
    return tuple(ends)


def items_of(block):
    """A paragraph's items; a display is a single one."""
    if block[4] == 1:
        return [(*block[6:9], 0, 0, 0, 0)]
    numbers = block[6:]
    return [tuple(numbers[k:k + 7]) for k in range(0, len(numbers), 7)]


class Plain:
    """The calls lines to count, answered from six settings and a list of blocks told by numbers."""

    def __init__(self, settings, blocks):
        self.measure, self.indent, self.lead, self.gap, self.page, self.orphan = settings
        self.blocks = blocks
        self.set_lines = self.all_lines()
        self.row = self.column()
        self.set_pages = best_lines(self.row, self.page, 0, 0)

    def all_lines(self):
        """For each line: block, first, last, height, depth, overfull."""
        told = []
        for number, block in enumerate(self.blocks):
            items = items_of(block)
            if block[4] == 1:
                told.append((number, 0, 0, block[7], block[8], max(0, block[6] - self.measure)))
                continue
            for first, last, slack, overfull, cost in best_lines(items, self.measure, block[5], self.indent):
                held = items[first:last + 1]
                told.append((number, first, last, max(i[1] for i in held), max(i[2] for i in held), overfull))
        return told

    def column(self):
        """The lines as items of a row; their heights and depths there are of no account."""
        row = []
        for line, below in zip(self.set_lines, self.set_lines[1:]):
            owner, opened = self.blocks[line[0]], self.blocks[below[0]]
            space = max(self.gap, self.lead - line[4] - below[3])
            stretch = shrink = 0
            if line[0] != below[0]:
                space, stretch, shrink, cost = space + opened[0], opened[1], opened[2], owner[3]
            elif line[1] == 0 or below[2] == len(items_of(owner)) - 1:
                cost = self.orphan
            else:
                cost = 0
            row.append((max(0, line[3] + line[4]), 0, 0, space, stretch, shrink, cost))
        for line in self.set_lines[-1:]:
            row.append((max(0, line[3] + line[4]), 0, 0, 0, 0, 0, 0))
        return row

    def spot(self, i, k):
        """The page, x and y of item k of block i."""
        number = [n for n, line in enumerate(self.set_lines) if line[0] == i and line[1] <= k <= line[2]][0]
        page = [n for n, told in enumerate(self.set_pages) if told[0] <= number <= told[1]][0]
        line, block = self.set_lines[number], self.blocks[i]
        above = self.row[self.set_pages[page][0]:number]
        y = -sum(item[0] + item[3] for item in above) - line[3]
        if block[4] == 1:
            spare = self.measure - block[6]
            return page, (0, (spare - spare % 2) // 2, spare)[block[5]], y
        before = items_of(block)[line[1]:k]
        return page, (self.indent if line[1] else block[5]) + sum(item[0] + item[3] for item in before), y

    def lines(self):
        return [0, *chain.from_iterable(self.set_lines)]

    def pages(self):
        return [0, *chain.from_iterable(page[:4] for page in self.set_pages)]

    def worth(self):
        overfull = sum(line[5] for line in self.set_lines)
        sums = [sum(page[k] for page in self.set_pages) for k in (3, 4)]
        return [0, overfull, *sums, len(self.set_lines), len(self.set_pages)]

    def place(self, i, k):
        if not 0 <= i < len(self.blocks):
            return [-5]
        if not 0 <= k < len(items_of(self.blocks[i])):
            return [-6]
        return [0, *self.spot(i, k)]

    def places(self, i):
        if not 0 <= i < len(self.blocks):
            return [-5]
        return [0, *chain.from_iterable(self.spot(i, k) for k in range(len(items_of(self.blocks[i]))))]

    def at(self, page, x, y):
        told = [0]
        for i, block in enumerate(self.blocks):
            for k, item in enumerate(items_of(block)):
                there, left, base = self.spot(i, k)
                if there == page and left <= x < left + item[0] and base - item[2] <= y < base + item[1]:
                    told += [i, k]
        return told

    def count(self):
        return [0, len(self.blocks), sum(len(items_of(block)) for block in self.blocks if block[4] == 0)]
