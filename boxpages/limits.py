"""Ranges of numbers, and what every call answers where nothing is refused."""

DONE = 0


def all_within(numbers, ranges):
    """Whether each number lies in the range at its own place; a range is its lowest and its highest number."""
    return all([limits[0] <= number <= limits[1] for number, limits in zip(numbers, ranges)])
