"""Blocks told by numbers: their forms, their ranges, and their items.

A block is kept as the numbers that tell it: before, stretch, shrink, cost, which form follows, and that form.
"""

from boxpages.limits import DONE, all_within

BAD_FORM = -1
OUT_OF_RANGE = -2
TOO_MANY = -3

MOST_BLOCKS = 60
MOST_ITEMS = 600

HEAD_SIZE = 4
FORM_PLACE = 4
PARAGRAPH = 0
DISPLAY = 1

BEFORE_PLACE = 0
BEFORE_SHRINK_PLACE = 2
BLOCK_COST_PLACE = 3

FIRST_INDENT_PLACE = 5
ITEMS_PLACE = 6
ITEM_SIZE = 7
WIDTH_PLACE = 0
HEIGHT_PLACE = 1
DEPTH_PLACE = 2
SPACE_PLACE = 3
SPACE_SHRINK_PLACE = 5
ITEM_COST_PLACE = 6

DISPLAY_PLACE = 5
DISPLAY_SIZE = 4
WAY_PLACE = 5
DISPLAY_WIDTH_PLACE = 6

LEFT = 0
CENTRED = 1

# before, stretch, shrink, cost
HEAD_RANGES = ((0, 1000000), (0, 1000000), (0, 1000000), (-1, 1000000))

FIRST_INDENT_RANGES = ((0, 100000000),)

# width, height, depth, space, stretch, shrink, cost
ITEM_RANGES = (
    (0, 1000000),
    (-1000000, 1000000),
    (-1000000, 1000000),
    (0, 1000000),
    (0, 1000000),
    (0, 1000000),
    (-1, 1000000),
)

# way, width, height, depth
DISPLAY_RANGES = ((0, 2), (0, 1000000), (-1000000, 1000000), (-1000000, 1000000))


def is_paragraph(block):
    return block[FORM_PLACE] == PARAGRAPH


def items_between(block, first, last):
    """The items of a paragraph from the first to the last one, seven numbers each."""
    start = ITEMS_PLACE + first * ITEM_SIZE
    end = ITEMS_PLACE + (last + 1) * ITEM_SIZE
    return [block[place:place + ITEM_SIZE] for place in range(start, end, ITEM_SIZE)]


def items_of(block):
    return items_between(block, 0, item_count(block) - 1)


def sizes_of(block):
    """The width, height and depth of each item, a display being one item."""
    if is_paragraph(block):
        return [item[:SPACE_PLACE] for item in items_of(block)]
    return [block[DISPLAY_WIDTH_PLACE:]]


def item_count(block):
    """How many items count towards the most that all paragraphs may have: a display's box does not."""
    if not is_paragraph(block):
        return 0
    return (len(block) - ITEMS_PLACE) // ITEM_SIZE


def item_total(blocks):
    return sum([item_count(block) for block in blocks])


def has_form(numbers):
    if len(numbers) <= FORM_PLACE:
        return False
    if numbers[FORM_PLACE] == PARAGRAPH:
        behind = len(numbers) - ITEMS_PLACE
        return behind >= ITEM_SIZE and behind % ITEM_SIZE == 0
    return numbers[FORM_PLACE] == DISPLAY and len(numbers) == DISPLAY_PLACE + DISPLAY_SIZE


def head_in_range(block):
    if block[BEFORE_SHRINK_PLACE] > block[BEFORE_PLACE]:
        return False
    return all_within(block[:HEAD_SIZE], HEAD_RANGES)


def item_in_range(item):
    if item[SPACE_SHRINK_PLACE] > item[SPACE_PLACE]:
        return False
    return all_within(item, ITEM_RANGES)


def paragraph_in_range(block):
    if not all_within(block[FIRST_INDENT_PLACE:ITEMS_PLACE], FIRST_INDENT_RANGES):
        return False
    return all([item_in_range(item) for item in items_of(block)])


def block_in_range(block):
    if not head_in_range(block):
        return False
    if is_paragraph(block):
        return paragraph_in_range(block)
    return all_within(block[DISPLAY_PLACE:], DISPLAY_RANGES)


def block_refusal(numbers, others):
    """Why these numbers can't be a block beside the others, or DONE if they can."""
    if not has_form(numbers):
        return BAD_FORM
    if not block_in_range(numbers):
        return OUT_OF_RANGE
    if len(others) + 1 > MOST_BLOCKS or item_total(others) + item_count(numbers) > MOST_ITEMS:
        return TOO_MANY
    return DONE
