"""The pieces of formats, their limits, and what is counted in them."""

# The kinds of pieces, as the numbers that stand for them.
LITERAL = 0
NUMBER = 1
WORD = 2
ALTERNATIVES = 3
OPTIONAL = 4
REPEAT = 5

# By kind: the word that begins such a piece in a source, and how many rows it has.
KIND_WORDS = ("", "num", "word", "alt", "opt", "rep")
ROW_COUNTS = (0, 0, 0, 2, 1, 1)

MOST_PIECES = 14
MOST_GONE_THROUGH = 8
MOST_TEXT_BYTES = 8
HIGHEST_BOUND = 4


# Every kind has the same values, so that one walk serves them all: what a kind has none of
# is empty or 0 there.
class Piece:
    def __init__(self, kind, text, lo, hi, rows):
        self.kind = kind
        self.text = text
        self.lo = lo
        self.hi = hi
        self.rows = rows


def has_text(kind):
    return kind in (LITERAL, REPEAT)


def has_bounds(kind):
    return kind in (NUMBER, WORD, REPEAT)


def fewest_text_bytes(kind):
    return 0 if kind == REPEAT else 1


def lowest_bound(kind):
    return 0 if kind == REPEAT else 1


# What stands behind a piece's kind and text is the same in sources and in numbers; only how
# a bound and a row are read there is each reading's own.
def read_behind_text(reading, kind, text, within_repeat):
    lo = reading.read_bound(lowest_bound(kind)) if has_bounds(kind) else 0
    hi = reading.read_bound(lo) if has_bounds(kind) else 0
    rows = []
    while len(rows) < ROW_COUNTS[kind]:
        rows.append(reading.read_row(within_repeat or kind == REPEAT))
    return Piece(kind, text, lo, hi, rows)


def piece_count(row):
    count = 0
    for piece in row:
        count += 1 + sum([piece_count(inner) for inner in piece.rows])
    return count


def gone_through(row):
    return sum([piece_gone_through(piece) for piece in row])


def piece_gone_through(piece):
    if piece.kind == LITERAL:
        return 0
    within = max([gone_through(inner) for inner in piece.rows], default=0)
    if piece.kind == REPEAT:
        return 1 + piece.hi * within
    return 1 + within
