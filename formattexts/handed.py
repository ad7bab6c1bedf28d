"""Formats read from the numbers that stand for them."""

from formattexts.pieces import HIGHEST_BOUND, LITERAL, MOST_GONE_THROUGH, MOST_PIECES, MOST_TEXT_BYTES, REPEAT
from formattexts.pieces import fewest_text_bytes, gone_through, has_text, read_behind_text
from formattexts.signs import BLANK, LAST_BYTE


class NotAFormat(Exception):
    def __init__(self):
        Exception.__init__(self)


def read_format(numbers):
    reading = NumberReading(numbers)
    row = reading.read_row(False)
    if reading.at < len(numbers) or gone_through(row) > MOST_GONE_THROUGH:
        raise NotAFormat()
    return row


# Rows are read within one another, but never deeper than there may be pieces: the one
# too many is refused before its rows are read.
class NumberReading:
    def __init__(self, numbers):
        self.numbers = numbers
        self.at = 0
        self.pieces_read = 0

    def take(self, lowest, highest):
        if self.at == len(self.numbers) or not lowest <= self.numbers[self.at] <= highest:
            raise NotAFormat()
        self.at += 1
        return self.numbers[self.at - 1]

    def read_row(self, within_repeat):
        count = self.take(0, MOST_PIECES)
        row = []
        while len(row) < count:
            row.append(self.read_piece(within_repeat))
        return row

    def read_piece(self, within_repeat):
        kind = self.take(LITERAL, REPEAT)
        self.pieces_read += 1
        if self.pieces_read > MOST_PIECES or (kind == REPEAT and within_repeat):
            raise NotAFormat()
        text = self.read_text(fewest_text_bytes(kind)) if has_text(kind) else []
        return read_behind_text(self, kind, text, within_repeat)

    def read_text(self, fewest):
        count = self.take(fewest, MOST_TEXT_BYTES)
        text = []
        while len(text) < count:
            text.append(self.take(BLANK, LAST_BYTE))
        return text

    def read_bound(self, lowest):
        return self.take(lowest, HIGHEST_BOUND)
