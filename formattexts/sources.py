"""Sources read by their grammar, and faults 2 to 6."""

from formattexts.faults import OUT_OF_BOUNDS, OUT_OF_PLACE, REPEAT_WITHIN_REPEAT, TOO_MANY, TOO_MUCH_GONE_THROUGH
from formattexts.faults import Fault
from formattexts.pieces import HIGHEST_BOUND, KIND_WORDS, LITERAL, MOST_GONE_THROUGH, MOST_PIECES, MOST_TEXT_BYTES
from formattexts.pieces import REPEAT, fewest_text_bytes, gone_through, has_text, read_behind_text
from formattexts.tokens import END, MARK, NUMERAL, STRING, read_tokens

MOST_VALUES = 6
MOST_NUMERALS = 60


class Source:
    def __init__(self, row, listed):
        self.row = row
        self.listed = listed


def read_source(source):
    reading = Reading(read_tokens(source))
    place = reading.take_mark("format")
    row = reading.read_row(False)
    if gone_through(row) > MOST_GONE_THROUGH:
        raise Fault(TOO_MUCH_GONE_THROUGH, place)
    listed = []
    while not reading.next_is(END):
        place = reading.take_mark("value")
        if len(listed) == MOST_VALUES:
            raise Fault(TOO_MANY, place)
        listed.append(reading.read_value())
    return Source(row, listed)


# Rows are read within one another, but never deeper than there may be pieces: the one
# too many is a fault before its rows are read.
class Reading:
    def __init__(self, tokens):
        self.tokens = tokens
        self.at = 0
        self.pieces_read = 0

    def next_is(self, kind):
        return self.tokens[self.at].kind == kind

    def take(self):
        token = self.tokens[self.at]
        self.at += 1
        return token

    def take_kind(self, kind):
        token = self.take()
        if token.kind != kind:
            raise Fault(OUT_OF_PLACE, token.place)
        return token

    def take_mark(self, told):
        token = self.take()
        if not is_mark(token, told):
            raise Fault(OUT_OF_PLACE, token.place)
        return token.place

    def read_row(self, within_repeat):
        self.take_mark("{")
        row = []
        while not is_mark(self.tokens[self.at], "}"):
            row.append(self.read_piece(within_repeat))
        self.take_mark("}")
        return row

    def read_piece(self, within_repeat):
        token = self.take()
        kind = kind_begun(token)
        self.check_piece(token, kind, within_repeat)
        text = self.read_text(token, kind) if has_text(kind) else []
        return read_behind_text(self, kind, text, within_repeat)

    # The order of these is the document's: of several faults at one place the first counts.
    def check_piece(self, token, kind, within_repeat):
        if kind is None:
            raise Fault(OUT_OF_PLACE, token.place)
        self.pieces_read += 1
        if self.pieces_read > MOST_PIECES:
            raise Fault(TOO_MANY, token.place)
        if kind == REPEAT and within_repeat:
            raise Fault(REPEAT_WITHIN_REPEAT, token.place)

    # A literal's string is the token that begins it.
    def read_text(self, begun, kind):
        token = begun if kind == LITERAL else self.take_kind(STRING)
        if not fewest_text_bytes(kind) <= len(token.told) <= MOST_TEXT_BYTES:
            raise Fault(OUT_OF_BOUNDS, token.place)
        return token.told

    def read_bound(self, lowest):
        token = self.take_kind(NUMERAL)
        if not lowest <= token.told <= HIGHEST_BOUND:
            raise Fault(OUT_OF_BOUNDS, token.place)
        return token.told

    # No numeral here is above a value's bound: a longer one is no token.
    def read_value(self):
        self.take_mark("(")
        numbers = []
        while self.next_is(NUMERAL):
            token = self.take()
            if len(numbers) == MOST_NUMERALS:
                raise Fault(TOO_MANY, token.place)
            numbers.append(token.told)
        self.take_mark(")")
        self.take_mark(";")
        return numbers


def is_mark(token, told):
    return token.kind == MARK and token.told == told


def kind_begun(token):
    if token.kind == STRING:
        return LITERAL
    if token.kind == MARK and token.told in KIND_WORDS:
        return KIND_WORDS.index(token.told)
    return None
