"""Formats as numbers, and the one form of a source."""

from formattexts.pieces import KIND_WORDS, LITERAL, has_bounds, has_text
from formattexts.signs import BACKSLASH, BLANK, QUOTE, ROW_END, spelled


def row_numbers(row):
    numbers = [len(row)]
    for piece in row:
        numbers.extend(piece_numbers(piece))
    return numbers


def piece_numbers(piece):
    numbers = [piece.kind]
    if has_text(piece.kind):
        numbers.append(len(piece.text))
        numbers.extend(piece.text)
    if has_bounds(piece.kind):
        numbers.append(piece.lo)
        numbers.append(piece.hi)
    for row in piece.rows:
        numbers.extend(row_numbers(row))
    return numbers


def one_form(row, listed):
    text = line_of([spelled("format")] + row_words(row))
    for numbers in listed:
        text.extend(value_line(numbers))
    return text


def line_of(words):
    line = []
    for word in words:
        if line:
            line.append(BLANK)
        line.extend(word)
    line.append(ROW_END)
    return line


# The semicolon is one word with the bracket, as no blank stands ahead of it.
def value_line(numbers):
    numerals = [spelled(str(number)) for number in numbers]
    return line_of([spelled("value"), spelled("(")] + numerals + [spelled(");")])


def row_words(row):
    words = [spelled("{")]
    for piece in row:
        words.extend(piece_words(piece))
    words.append(spelled("}"))
    return words


def piece_words(piece):
    words = []
    if piece.kind != LITERAL:
        words.append(spelled(KIND_WORDS[piece.kind]))
    if has_text(piece.kind):
        words.append(quoted(piece.text))
    if has_bounds(piece.kind):
        words.append(spelled(str(piece.lo)))
        words.append(spelled(str(piece.hi)))
    for row in piece.rows:
        words.extend(row_words(row))
    return words


def quoted(text):
    string = [QUOTE]
    for byte in text:
        if byte in (QUOTE, BACKSLASH):
            string.append(BACKSLASH)
        string.append(byte)
    string.append(QUOTE)
    return string
