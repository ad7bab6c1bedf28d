"""Bytes that have a meaning, and texts as lists of bytes."""

ROW_END = 10
BLANK = 32
QUOTE = 34
ZERO = 48
NINE = 57
BACKSLASH = 92
SMALL_A = 97
SMALL_Z = 122
LAST_BYTE = 126


def is_digit(byte):
    return ZERO <= byte <= NINE


def is_letter(byte):
    return SMALL_A <= byte <= SMALL_Z


def spelled(text):
    return [ord(sign) for sign in text]


def number_of(digits):
    number = 0
    for digit in digits:
        number = number * 10 + digit - ZERO
    return number
