"""The calls on one object, and their answers."""

from formattexts.faults import Fault
from formattexts.forms import one_form, row_numbers
from formattexts.pieces import gone_through, piece_count
from formattexts.plans import first_scanning, print_of
from formattexts.sources import read_source

LOAD = 0
SHOWN = 1
FORMAT = 2
PRINT = 3
SCAN = 4

MOST_SOURCE_BYTES = 1200
MOST_TEXT_BYTES = 24
MOST_NUMBERS = 60
HIGHEST_NUMBER = 9999


# The source's format and its values are kept apart: they need not belong together.
class Keeper:
    def __init__(self):
        self.row = None
        self.listed = []

    def load(self, source):
        if len(source) > MOST_SOURCE_BYTES:
            return [-1]
        try:
            read = read_source(source)
        except Fault as fault:
            return [1, fault.kind, fault.place]
        self.row = read.row
        self.listed = read.listed
        return [0, piece_count(self.row), gone_through(self.row), len(self.listed)]

    def shown(self):
        return counted(one_form(self.row, self.listed))

    def as_numbers(self):
        return row_numbers(self.row)

    def printed(self, value):
        if not is_whole_value(value):
            return [-5]
        return found(print_of(self.row, value[1:]))

    def scanned(self, text):
        if len(text) > MOST_TEXT_BYTES:
            return [-1]
        return found(first_scanning(self.row, text))


def is_whole_value(value):
    if not value or value[0] != len(value) - 1 or value[0] > MOST_NUMBERS:
        return False
    return all([0 <= number <= HIGHEST_NUMBER for number in value[1:]])


def counted(numbers):
    return [len(numbers)] + numbers


def found(numbers):
    if numbers is None:
        return [0]
    return [1] + counted(numbers)


def has_list(call):
    return call in (LOAD, PRINT, SCAN)


def answer(keeper, call, numbers):
    if call == LOAD:
        return keeper.load(numbers)
    if keeper.row is None:
        return [-8]
    if call == SHOWN:
        return keeper.shown()
    if call == FORMAT:
        return keeper.as_numbers()
    if call == PRINT:
        return keeper.printed(numbers)
    return keeper.scanned(numbers)


def answers(calls):
    keeper = Keeper()
    answered = []
    at = 0
    while at < len(calls):
        call = calls[at]
        at += 1
        if call > SCAN:
            raise ValueError(f"call {call} is not there yet")
        numbers = []
        if has_list(call):
            numbers = calls[at + 1:at + 1 + calls[at]]
            at += 1 + len(numbers)
        answered.extend(counted(answer(keeper, call, numbers)))
    return answered
