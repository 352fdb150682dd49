"""The settings, which are kept as six numbers: where each of them stands, and its range."""

MEASURE = 0
INDENT = 1
LEAD = 2
GAP = 3
PAGE = 4
ORPHAN = 5

SETTINGS_AT_FIRST = (0, 0, 0, 0, 0, 0)

# measure, indent, lead, gap, page, orphan
SETTING_RANGES = (
    (0, 100000000),
    (0, 100000000),
    (0, 1000000),
    (0, 1000000),
    (0, 100000000),
    (-1, 1000000),
)
