"""A format's steps in a row, and the prints and scannings found and counted by walking them.

The steps are laid from the format's end to its beginning: step 0 is the end itself, the
last one is where the format begins, and every step leads to ones ahead of it only. So one
loop over the steps knows of each, when it comes to it, what all that follow it can do.
"""

from formattexts.pieces import ALTERNATIVES, LITERAL, NUMBER, OPTIONAL, WORD
from formattexts.steps import ChoiceStep, Lead, NumberStep, TextStep, WordStep

END = 0


def steps_of(row):
    steps = [None]
    lay_row(steps, row, END)
    return steps


# Lays the row's steps, which lead on to the step `after`; gives back where the row begins.
def lay_row(steps, row, after):
    for piece in reversed(row):
        after = lay_piece(steps, piece, after)
    return after


def lay_piece(steps, piece, after):
    if piece.kind == LITERAL:
        return lay_step(steps, TextStep(piece.text, after))
    if piece.kind == NUMBER:
        return lay_step(steps, NumberStep(piece.lo, piece.hi, after))
    if piece.kind == WORD:
        return lay_step(steps, WordStep(piece.lo, piece.hi, after))
    return lay_step(steps, ChoiceStep(choices(steps, piece, after)))


def lay_step(steps, step):
    steps.append(step)
    return len(steps) - 1


# What comes first in the order of scannings stands first.
def choices(steps, piece, after):
    if piece.kind == ALTERNATIVES:
        return [Lead([number], [], lay_row(steps, piece.rows[number], after)) for number in range(2)]
    if piece.kind == OPTIONAL:
        return [Lead([1], [], lay_row(steps, piece.rows[0], after)), Lead([0], [], after)]
    entries = lay_times(steps, piece, after)
    return [Lead([times], [], entries[times]) for times in range(piece.hi, piece.lo - 1, -1)]


# Where that many times begin, by their number. More times are one time ahead of those
# that are one fewer, so each time is laid once.
def lay_times(steps, piece, after):
    entries = [after]
    while len(entries) <= piece.hi:
        behind = after
        if len(entries) > 1:
            behind = lay_step(steps, TextStep(piece.text, entries[-1]))
        entries.append(lay_row(steps, piece.rows[0], behind))
    return entries


# None if the numbers have no print.
def print_of(row, numbers):
    steps = steps_of(row)
    at = len(steps) - 1
    text = []
    used = 0
    while at != END:
        lead = steps[at].by_value(numbers[used:])
        if lead is None:
            return None
        text.extend(lead.text)
        used += len(lead.numbers)
        at = lead.target
    return text if used == len(numbers) else None


# By step and place: in how many ways the text from that place on can be scanned from that
# step on.
def way_counts(steps, text):
    counts = [[0] * len(text) + [1]]
    for step in steps[1:]:
        counts.append([ways_from(step, counts, text, place) for place in range(len(text) + 1)])
    return counts


def ways_from(step, counts, text, place):
    return sum([counts[lead.target][place + len(lead.text)] for lead in step.by_text(text[place:])])


# Whatever leads to the end another way has other numbers, so each way is a scanning of its own.
def scanning_count(row, text):
    return way_counts(steps_of(row), text)[-1][0]


# None if the text has no scanning.
def first_scanning(row, text):
    steps = steps_of(row)
    counts = way_counts(steps, text)
    at = len(steps) - 1
    place = 0
    numbers = []
    if counts[at][place] == 0:
        return None
    while at != END:
        lead = first_lead(steps[at], counts, text, place)
        numbers.extend(lead.numbers)
        place += len(lead.text)
        at = lead.target
    return numbers


# To be asked only where the text can be scanned from the step on.
def first_lead(step, counts, text, place):
    leads = step.by_text(text[place:])
    return [lead for lead in leads if counts[lead.target][place + len(lead.text)] > 0][0]
