"""The tokens of a source, and fault 1 where none stands."""

from formattexts.faults import NO_TOKEN, Fault
from formattexts.signs import BACKSLASH, BLANK, LAST_BYTE, NINE, QUOTE, ROW_END, SMALL_A, SMALL_Z, ZERO
from formattexts.signs import is_digit, is_letter, number_of

# A mark is a sign word or one of the five signs: what it tells is the text as it stands.
MARK = "mark"
NUMERAL = "numeral"
STRING = "string"
END = "end"

LETTERS = "abcdefghijklmnopqrstuvwxyz"
SIGNS = {40: "(", 41: ")", 59: ";", 123: "{", 125: "}"}
MOST_LETTERS = 6
MOST_DIGITS = 4


class Token:
    def __init__(self, kind, told, place, behind):
        self.kind = kind
        self.told = told
        self.place = place
        self.behind = behind


# The last one is the source's end: as a token it can be at fault like any other.
def read_tokens(source):
    tokens = []
    place = past_blanks(source, 0)
    while place < len(source):
        token = token_at(source, place)
        tokens.append(token)
        place = past_blanks(source, token.behind)
    tokens.append(Token(END, "", place, place))
    return tokens


def past_blanks(source, place):
    while place < len(source) and source[place] in (BLANK, ROW_END):
        place += 1
    return place


def token_at(source, place):
    byte = source[place]
    if is_letter(byte):
        return sign_word_at(source, place)
    if is_digit(byte):
        return numeral_at(source, place)
    if byte == QUOTE:
        return string_at(source, place)
    if byte in SIGNS:
        return Token(MARK, SIGNS[byte], place, place + 1)
    raise Fault(NO_TOKEN, place)


def run_end(source, place, first, last):
    while place < len(source) and first <= source[place] <= last:
        place += 1
    return place


def sign_word_at(source, place):
    behind = run_end(source, place, SMALL_A, SMALL_Z)
    if behind - place > MOST_LETTERS:
        raise Fault(NO_TOKEN, place)
    told = "".join([LETTERS[byte - SMALL_A] for byte in source[place:behind]])
    return Token(MARK, told, place, behind)


def numeral_at(source, place):
    behind = run_end(source, place, ZERO, NINE)
    digits = source[place:behind]
    if len(digits) > MOST_DIGITS or (len(digits) > 1 and digits[0] == ZERO):
        raise Fault(NO_TOKEN, place)
    return Token(NUMERAL, number_of(digits), place, behind)


def string_at(source, place):
    text = []
    at = place + 1
    while at < len(source) and source[at] != QUOTE:
        behind_backslash = source[at] == BACKSLASH
        if behind_backslash:
            at += 1
        if not can_stand_in_string(source, at, behind_backslash):
            raise Fault(NO_TOKEN, place)
        text.append(source[at])
        at += 1
    if at == len(source):
        raise Fault(NO_TOKEN, place)
    return Token(STRING, text, place, at + 1)


def can_stand_in_string(source, at, behind_backslash):
    if at == len(source):
        return False
    if behind_backslash:
        return source[at] in (QUOTE, BACKSLASH)
    return BLANK <= source[at] <= LAST_BYTE
