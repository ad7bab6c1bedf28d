"""The pieces of formats, and what is counted in them."""

# The kinds of pieces, as the numbers that stand for them.
LITERAL = 0
NUMBER = 1
WORD = 2
ALTERNATIVES = 3
OPTIONAL = 4
REPEAT = 5

# By kind: the word that begins such a piece in a source, and how many rows it has.
KIND_WORDS = ("", "num", "word", "alt", "opt", "rep")
ROW_COUNTS = (0, 0, 0, 2, 1, 1)


# Every kind has the same values, so that one walk serves them all: what a kind has none of
# is empty or 0 there.
class Piece:
    def __init__(self, kind, text, lo, hi, rows):
        self.kind = kind
        self.text = text
        self.lo = lo
        self.hi = hi
        self.rows = rows


def has_text(kind):
    return kind in (LITERAL, REPEAT)


def has_bounds(kind):
    return kind in (NUMBER, WORD, REPEAT)


def lowest_bound(kind):
    return 0 if kind == REPEAT else 1


def piece_count(row):
    count = 0
    for piece in row:
        count += 1 + sum([piece_count(inner) for inner in piece.rows])
    return count


def gone_through(row):
    return sum([piece_gone_through(piece) for piece in row])


def piece_gone_through(piece):
    if piece.kind == LITERAL:
        return 0
    within = max([gone_through(inner) for inner in piece.rows], default=0)
    if piece.kind == REPEAT:
        return 1 + piece.hi * within
    return 1 + within
