"""The calls on one object, and their answers."""

from formattexts.faults import Fault
from formattexts.forms import one_form, row_numbers
from formattexts.handed import NotAFormat, read_format
from formattexts.lengths import longest_length, shortest_length
from formattexts.pieces import gone_through, piece_count
from formattexts.plans import first_scanning, print_of, scanning_count
from formattexts.sources import read_source

LOAD = 0
SHOWN = 1
FORMAT = 2
PRINT = 3
SCAN = 4
WAYS = 5
TOLD = 6
LENGTHS = 7
ROUND = 8
PUT = 9

MOST_SOURCE_BYTES = 1200
MOST_TEXT_BYTES = 24
MOST_NUMBERS = 60
HIGHEST_NUMBER = 9999


# The source's format and its values are kept apart: they need not belong together.
class Keeper:
    def __init__(self):
        self.row = None
        self.listed = []

    def load(self, source):
        if len(source) > MOST_SOURCE_BYTES:
            return [-1]
        try:
            read = read_source(source)
        except Fault as fault:
            return [1, fault.kind, fault.place]
        self.row = read.row
        self.listed = read.listed
        return [0, piece_count(self.row), gone_through(self.row), len(self.listed)]

    def shown(self):
        return counted(one_form(self.row, self.listed))

    def as_numbers(self):
        return row_numbers(self.row)

    def printed(self, value):
        if not is_whole_value(value):
            return [-5]
        return found(print_of(self.row, value[1:]))

    def scanned(self, text):
        if len(text) > MOST_TEXT_BYTES:
            return [-1]
        return found(first_scanning(self.row, text))

    def ways(self, text):
        if len(text) > MOST_TEXT_BYTES:
            return [-1]
        return [scanning_count(self.row, text)]

    def listed_value(self, number):
        if not 0 <= number < len(self.listed):
            return [-3]
        value = self.listed[number]
        return counted(value) + found(print_of(self.row, value))

    def lengths(self):
        return [shortest_length(self.row), longest_length(self.row)]

    def come_back(self, value):
        if not is_whole_value(value):
            return [-5]
        text = print_of(self.row, value[1:])
        if text is None:
            return [-4]
        if len(text) > MOST_TEXT_BYTES:
            return [-7]
        numbers = first_scanning(self.row, text)
        return [1] if numbers == value[1:] else [0] + counted(numbers)

    def put(self, pieces):
        try:
            row = read_format(pieces)
        except NotAFormat:
            return [-5]
        self.row = row
        return [piece_count(row), gone_through(row)]


def is_whole_value(value):
    if not value or value[0] != len(value) - 1 or value[0] > MOST_NUMBERS:
        return False
    return all([0 <= number <= HIGHEST_NUMBER for number in value[1:]])


def counted(numbers):
    return [len(numbers)] + numbers


def found(numbers):
    if numbers is None:
        return [0]
    return [1] + counted(numbers)


def has_list(call):
    return call in (LOAD, PRINT, SCAN, WAYS, ROUND, PUT)


def answer(keeper, call, numbers):
    if call == LOAD:
        return keeper.load(numbers)
    if keeper.row is None:
        return [-8]
    if call == SHOWN:
        return keeper.shown()
    if call == FORMAT:
        return keeper.as_numbers()
    if call == PRINT:
        return keeper.printed(numbers)
    if call == SCAN:
        return keeper.scanned(numbers)
    if call == WAYS:
        return keeper.ways(numbers)
    if call == TOLD:
        return keeper.listed_value(numbers[0])
    if call == LENGTHS:
        return keeper.lengths()
    if call == ROUND:
        return keeper.come_back(numbers)
    return keeper.put(numbers)


def answers(calls):
    keeper = Keeper()
    answered = []
    at = 0
    while at < len(calls):
        call = calls[at]
        at += 1
        size = 0
        if call == TOLD:
            size = 1
        elif has_list(call):
            size = calls[at]
            at += 1
        answered.extend(counted(answer(keeper, call, calls[at:at + size])))
        at += size
    return answered
