"""Many made formats, against prints, scannings and lengths that are found in another, plainer way.

A made row is a list of tuples: ("text", t), ("num", lo, hi), ("word", lo, hi),
("alt", row, row), ("opt", row), ("rep", t, lo, hi, row).
"""

import itertools
import random
import unittest

from helper import ask

ALPHABET = '0123ab"\\,'


def made_text(chance, lo, hi):
    return "".join(chance.choice(ALPHABET) for each in range(chance.randint(lo, hi)))


def made_row(chance, depth, within_repeat):
    sorts = ["text", "num", "word"]
    if depth:
        sorts += ["alt", "opt", "opt"] + ([] if within_repeat else ["rep", "rep"])
    return [made_piece(chance, chance.choice(sorts), depth - 1, within_repeat) for each in range(chance.randint(0, 3))]


def made_piece(chance, sort, depth, within_repeat):
    lo = chance.randint(1, 3)
    if sort == "text":
        return (sort, made_text(chance, 1, 2))
    if sort in ("num", "word"):
        return (sort, lo, chance.randint(lo, min(4, lo + 2)))
    if sort == "alt":
        return (sort, made_row(chance, depth, within_repeat), made_row(chance, depth, within_repeat))
    if sort == "opt":
        return (sort, made_row(chance, depth, within_repeat))
    lo -= 1
    return (sort, made_text(chance, 0, 1), lo, chance.randint(lo, 3), made_row(chance, depth, True))


def rows_of(piece):
    return [part for part in piece if isinstance(part, list)]


def pieces(row):
    return sum(1 + sum(pieces(inner) for inner in rows_of(piece)) for piece in row)


def gone(row):
    count = 0
    for piece in row:
        within = [gone(inner) for inner in rows_of(piece)]
        if piece[0] == "alt":
            count += 1 + max(within)
        elif piece[0] == "rep":
            count += 1 + piece[3] * within[0]
        elif piece[0] != "text":
            count += 1 + sum(within)
    return count


def form(row):
    words = ["{"]
    for piece in row:
        words += [] if piece[0] == "text" else [piece[0]]
        for part in piece[1:]:
            if isinstance(part, str):
                words.append('"' + part.replace("\\", "\\\\").replace('"', '\\"') + '"')
            else:
                words.append(form(part) if isinstance(part, list) else str(part))
    return " ".join(words + ["}"])


def numbers_of(row):
    kinds = ("text", "num", "word", "alt", "opt", "rep")
    numbers = [len(row)]
    for piece in row:
        numbers.append(kinds.index(piece[0]))
        for part in piece[1:]:
            if isinstance(part, str):
                numbers += [len(part)] + [ord(sign) for sign in part]
            else:
                numbers += numbers_of(part) if isinstance(part, list) else [part]
    return numbers


def prints(row, value, text):
    """(the numbers left, the print so far), or None."""
    for piece in row:
        got = prints_piece(piece, value, text)
        if got is None:
            return None
        value, text = got
    return value, text


def prints_piece(piece, value, text):
    if piece[0] == "text":
        return value, text + piece[1]
    if not value:
        return None
    first, rest = value[0], value[1:]
    if piece[0] == "num":
        lo, hi = piece[1:]
        digits = str(first) if lo != hi else ("0000" + str(first))[-max(hi, len(str(first))):]
        return (rest, text + digits) if lo <= len(digits) <= hi else None
    if piece[0] == "word":
        letters = rest[:first]
        if not piece[1] <= first <= piece[2] or len(letters) != first or any(letter > 25 for letter in letters):
            return None
        return rest[first:], text + "".join(chr(97 + letter) for letter in letters)
    if piece[0] == "rep":
        if not piece[2] <= first <= piece[3]:
            return None
        return prints(list(between(piece, first)), rest, text)
    if first > 1:
        return None
    if piece[0] == "opt":
        return prints(piece[1], rest, text) if first else (rest, text)
    return prints(piece[1 + first], rest, text)


def between(piece, times):
    """The row that the repeat stands for, if it's that many times."""
    for time in range(times):
        if time:
            yield ("text", piece[1])
        yield from piece[4]


def scannings(row, text):
    """All scannings of the text's beginnings, in order: (the value, the text left)."""
    ways = [([], text)]
    for piece in row:
        ways = [(value + more, left) for value, rest in ways for more, left in scannings_piece(piece, rest)]
    return ways


def scannings_piece(piece, text):
    if piece[0] == "text":
        return [([], text[len(piece[1]):])] if text.startswith(piece[1]) else []
    if piece[0] == "alt":
        return [([n] + value, left) for n in (0, 1) for value, left in scannings(piece[1 + n], text)]
    if piece[0] == "opt":
        return [([1] + value, left) for value, left in scannings(piece[1], text)] + [([0], text)]
    if piece[0] == "rep":
        times = reversed(range(piece[2], piece[3] + 1))
        return [([n] + value, left) for n in times for value, left in scannings(list(between(piece, n)), text)]
    ways = []
    for size in (4, 3, 2, 1):
        run = text[:size]
        if piece[1] <= size <= piece[2] and len(run) == size:
            if piece[0] == "word" and all("a" <= sign <= "z" for sign in run):
                ways.append(([size] + [ord(sign) - 97 for sign in run], text[size:]))
            if piece[0] == "num" and all("0" <= sign <= "9" for sign in run):
                if piece[1] == piece[2] or run == "0" or run[0] != "0":
                    ways.append(([int(run)], text[size:]))
    return ways


def whole_scannings(row, text):
    return [value for value, left in scannings(row, text) if not left]


def sizes(row):
    """How long the prints may be, by what the pieces tell."""
    found = {0}
    for piece in row:
        found = {size + more for size in found for more in sizes_of_piece(piece)}
    return found


def sizes_of_piece(piece):
    if piece[0] == "text":
        return {len(piece[1])}
    if piece[0] == "alt":
        return sizes(piece[1]) | sizes(piece[2])
    if piece[0] == "opt":
        return sizes(piece[1]) | {0}
    if piece[0] == "rep":
        return set().union(*[sizes(list(between(piece, times))) for times in range(piece[2], piece[3] + 1)])
    return set(range(piece[1], piece[2] + 1))


def row_of(numbers, within_repeat):
    """(the made row that the numbers begin with, the numbers left); fails where they begin with none."""
    count, rest = bound(numbers, 0, 14)
    row = []
    for each in range(count):
        kind, rest = bound(rest, 0, 5)
        assert not (kind == 5 and within_repeat)
        piece = [("text", "num", "word", "alt", "opt", "rep")[kind]]
        if kind in (0, 5):
            size, rest = bound(rest, 1 if kind == 0 else 0, 8)
            text = rest[:size]
            assert len(text) == size and all(32 <= byte <= 126 for byte in text)
            piece.append("".join(chr(byte) for byte in text))
            rest = rest[size:]
        if kind in (1, 2, 5):
            lo, rest = bound(rest, 0 if kind == 5 else 1, 4)
            hi, rest = bound(rest, lo, 4)
            piece += [lo, hi]
        for each_row in range((0, 0, 0, 2, 1, 1)[kind]):
            inner, rest = row_of(rest, within_repeat or kind == 5)
            piece.append(inner)
        row.append(tuple(piece))
    return row, rest


def bound(numbers, lo, hi):
    assert numbers and lo <= numbers[0] <= hi
    return numbers[0], numbers[1:]


def whole_row_of(numbers):
    """The made row within its limits, or None."""
    try:
        row, rest = row_of(numbers, False)
    except AssertionError:
        return None
    return row if not rest and pieces(row) <= 14 and gone(row) <= 8 else None


def made_value(chance, row):
    """A value that may have a print."""
    value = []
    for piece in row:
        if piece[0] == "num":
            value.append(chance.choice([0, 1, 7, 10, 31, 99, 100, 210, 999, 1000, 9999]))
        elif piece[0] == "word":
            size = chance.randint(piece[1], piece[2])
            value += [size] + [chance.choice([0, 1, 1, 0, 25]) for each in range(size)]
        elif piece[0] == "alt":
            number = chance.randint(0, 1)
            value += [number] + made_value(chance, piece[1 + number])
        elif piece[0] == "opt":
            number = chance.randint(0, 1)
            value += [number] + (made_value(chance, piece[1]) if number else [])
        elif piece[0] == "rep":
            number = chance.randint(piece[2], piece[3])
            value += [number] + made_value(chance, list(between(piece, number)))
    return value


def spoilt(chance, value):
    """The value with one number changed, left out or put in."""
    at = chance.randint(0, len(value))
    new = [chance.choice([0, 1, 2, 3, 4, 5, 25, 26, 99])] if chance.randint(0, 2) else []
    return value[:at] + new + value[at + chance.randint(0, 1):]


def made_formats(seed, count):
    chance = random.Random(seed)
    while count:
        row = made_row(chance, 3, False)
        if row and pieces(row) <= 14 and gone(row) <= 8:
            count -= 1
            yield chance, row


def scanned(row, text):
    answered = ask(("load", "format " + form(row)), ("scan", text))[1]
    return answered[2:] if answered[0] else None


def ways(row, text):
    return ask(("load", "format " + form(row)), ("ways", text))[1][0]


class MadeFormats(unittest.TestCase):
    def test_load_shown_and_format(self):
        for chance, row in made_formats(1, 400):
            line = "format " + form(row) + "\n"
            answered = ask(("load", line), "shown", "format")
            self.assertEqual(answered[0], [0, pieces(row), gone(row), 0], line)
            self.assertEqual(bytes(answered[1][1:]).decode(), line)
            self.assertEqual(answered[2], numbers_of(row), line)

    def test_prints_and_their_scannings(self):
        some = 0
        others = 0
        for chance, row in made_formats(2, 1500):
            value = made_value(chance, row)
            value = spoilt(chance, value) if chance.randint(0, 2) == 0 else value
            got = prints(row, value, "")
            text = got[1] if got and not got[0] else None
            source = "format " + form(row) + " value ( " + " ".join(str(number) for number in value) + " );"
            counted = [len(value)] + value
            answered = ask(("load", source), ("print", counted), ("told", 0), ("round", counted))
            printed = [0] if text is None else [1, len(text)] + [ord(sign) for sign in text]
            self.assertEqual(answered[1], printed, (form(row), value))
            self.assertEqual(answered[2], counted + printed, (form(row), value))
            if text is None or len(text) > 24:
                self.assertEqual(answered[3], [-4] if text is None else [-7], (form(row), value))
                continue
            some += 1
            first = whole_scannings(row, text)[0]
            others += first != value
            came_back = [1] if first == value else [0, len(first)] + first
            self.assertEqual(answered[3], came_back, (form(row), value))
            self.assertEqual(scanned(row, text), first, (form(row), text))
            self.assertEqual(ways(row, text), len(whole_scannings(row, text)), (form(row), text))
        self.assertGreater(some, 400)
        self.assertGreater(others, 30)

    def test_made_texts(self):
        for chance, row in made_formats(3, 150):
            for size in range(0, 4):
                for signs in itertools.product("01ab,", repeat=size):
                    text = "".join(signs)
                    found = whole_scannings(row, text)
                    self.assertEqual(scanned(row, text), found[0] if found else None, (form(row), text))
                    self.assertEqual(ways(row, text), len(found), (form(row), text))

    def test_lengths(self):
        for chance, row in made_formats(4, 600):
            answered = ask(("load", "format " + form(row)), "lengths")[1]
            self.assertEqual(answered, [min(sizes(row)), max(sizes(row))], form(row))

    def test_put(self):
        for chance, row in made_formats(5, 400):
            answered = ask(("load", "format { }"), ("put", numbers_of(row)), "format", "shown")
            self.assertEqual(answered[1], [pieces(row), gone(row)], form(row))
            self.assertEqual(answered[2], numbers_of(row), form(row))
            self.assertEqual(bytes(answered[3][1:]).decode(), "format " + form(row) + "\n")

    def test_put_of_spoilt_lists(self):
        whole = 0
        for chance, row in made_formats(6, 3000):
            numbers = spoilt(chance, numbers_of(row))
            answered = ask(("load", "format { }"), ("put", numbers), "format")
            found = whole_row_of(numbers)
            whole += found is not None
            if found is None:
                self.assertEqual(answered[1:], [[-5], [0]], numbers)
            else:
                self.assertEqual(answered[1:], [[pieces(found), gone(found)], numbers], numbers)
        self.assertTrue(300 < whole < 2700, whole)


if __name__ == "__main__":
    unittest.main()
