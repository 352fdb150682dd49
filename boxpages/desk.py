"""The calls on one object, read one behind another from a list of numbers, and their answers."""

from boxpages.document import Document

SETTING_COUNT = 6


class Reader:
    """Goes along the list of calls, which it only reads."""

    def __init__(self, calls):
        self.calls = calls
        self.position = 0

    def at_end(self):
        return self.position >= len(self.calls)

    def number(self):
        self.position += 1
        return self.calls[self.position - 1]

    def numbers(self, size):
        self.position += size
        return self.calls[self.position - size:self.position]

    def row(self):
        return self.numbers(self.number())


def answer_settings(document, reader):
    return document.settle(reader.numbers(SETTING_COUNT))


def answer_add(document, reader):
    return document.add(reader.row())


def answer_put(document, reader):
    i = reader.number()
    return document.put(i, reader.row())


def answer_change(document, reader):
    i = reader.number()
    return document.change(i, reader.row())


def answer_take(document, reader):
    return document.take(reader.number())


def answer_move(document, reader):
    i = reader.number()
    return document.move(i, reader.number())


def answer_block(document, reader):
    return document.block(reader.number())


def answer_lines(document, reader):
    return document.lines()


def answer_pages(document, reader):
    return document.pages()


def answer_worth(document, reader):
    return document.worth()


def answer_place(document, reader):
    i = reader.number()
    return document.place(i, reader.number())


def answer_places(document, reader):
    return document.places(reader.number())


def answer_at(document, reader):
    page = reader.number()
    x = reader.number()
    return document.at(page, x, reader.number())


def answer_count(document, reader):
    return document.count()


# What answers a call stands at the call's own number.
CALLS = (
    answer_settings,
    answer_add,
    answer_put,
    answer_change,
    answer_take,
    answer_move,
    answer_block,
    answer_lines,
    answer_pages,
    answer_worth,
    answer_place,
    answer_places,
    answer_at,
    answer_count,
)


def answers(calls):
    """For each call in order: how many numbers are answered, then these."""
    reader = Reader(calls)
    document = Document()
    told = []
    while not reader.at_end():
        answer_call = CALLS[reader.number()]
        answer = answer_call(document, reader)
        told.append(len(answer))
        told.extend(answer)
    return told
