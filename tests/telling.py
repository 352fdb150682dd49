"""Ways to write calls as numbers, and to part the answers again."""

from boxpages.desk import answers

SETTINGS, ADD, PUT, CHANGE, TAKE, MOVE, BLOCK, LINES, PAGES, WORTH, PLACE, PLACES, AT, COUNT = range(14)

FAR = 10 ** 18
ITEM = (40, 7, 3, 5, 0, 0, 0)
OK = [0]


def settings(*numbers):
    return [SETTINGS, *numbers]


def add(block):
    return [ADD, len(block), *block]


def put(i, block):
    return [PUT, i, len(block), *block]


def change(i, block):
    return [CHANGE, i, len(block), *block]


def take(i):
    return [TAKE, i]


def move(i, j):
    return [MOVE, i, j]


def block(i):
    return [BLOCK, i]


def lines():
    return [LINES]


def pages():
    return [PAGES]


def worth():
    return [WORTH]


def place(i, k):
    return [PLACE, i, k]


def places(i):
    return [PLACES, i]


def at(page, x, y):
    return [AT, page, x, y]


def count():
    return [COUNT]


def paragraph(count=1, head=(6, 0, 0, 0), indent=10, item=ITEM):
    return [*head, 0, indent, *(list(item) * count)]


def row(*items, head=(6, 0, 0, 0), indent=10):
    """A paragraph of these very items."""
    return [*head, 0, indent, *join(items)]


def display(width=30, head=(4, 0, 0, 0), way=1, height=9, depth=3):
    return [*head, 1, way, width, height, depth]


def displays(count):
    """Blocks that differ, so that each can be told from the others."""
    return [display(width=100 + k) for k in range(count)]


def join(calls):
    return [number for call in calls for number in call]


def parted(numbers):
    parts = []
    position = 0
    while position < len(numbers):
        end = position + 1 + numbers[position]
        parts.append(numbers[position + 1:end])
        position = end
    return parts


def run(*calls):
    """What each of the calls answers, one list a call."""
    return parted(answers(join(calls)))


def answer(*calls):
    """What the last of the calls answers."""
    return run(*calls)[-1]


def in_groups(numbers, size):
    """What is told behind the 0 of an answer, as many numbers a group."""
    assert numbers[0] == 0 and len(numbers) % size == 1 % size
    return [tuple(numbers[place:place + size]) for place in range(1, len(numbers), size)]


def blocks_after(*calls):
    """All blocks that are held behind these calls, asked for one by one."""
    told = run(*calls, *[block(i) for i in range(61)])[len(calls):]
    held = [answer[1:] for answer in told if answer[0] == 0]
    assert told == [[0] + numbers for numbers in held] + [[-5]] * (61 - len(held))
    return held
