"""How long a format's shortest print and its longest one are, by what its pieces tell."""

from formattexts.pieces import ALTERNATIVES, LITERAL, OPTIONAL, REPEAT


def shortest_length(row):
    return sum([shortest_piece_length(piece) for piece in row])


def shortest_piece_length(piece):
    if piece.kind == LITERAL:
        return len(piece.text)
    if piece.kind == ALTERNATIVES:
        return min([shortest_length(inner) for inner in piece.rows])
    if piece.kind == OPTIONAL:
        return 0
    if piece.kind == REPEAT:
        return repeated_length(piece, piece.lo, shortest_length(piece.rows[0]))
    return piece.lo


def longest_length(row):
    return sum([longest_piece_length(piece) for piece in row])


def longest_piece_length(piece):
    if piece.kind == LITERAL:
        return len(piece.text)
    if piece.kind == REPEAT:
        return repeated_length(piece, piece.hi, longest_length(piece.rows[0]))
    if piece.kind in (ALTERNATIVES, OPTIONAL):
        return max([longest_length(inner) for inner in piece.rows])
    return piece.hi


def repeated_length(piece, times, each):
    return times * each + max(times - 1, 0) * len(piece.text)
