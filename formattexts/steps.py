"""The steps in which a format is printed and scanned.

A step leads on to other steps. What goes that way is a lead: the numbers of the value and
the bytes of the print that belong to it. By a value a step tells the one lead that the
value goes, by a text all the leads that the text can go, in the order of scannings.
"""

from formattexts.signs import SMALL_A, is_digit, is_letter, number_of, spelled

LETTER_COUNT = 26


class Lead:
    def __init__(self, numbers, text, target):
        self.numbers = numbers
        self.text = text
        self.target = target


class TextStep:
    def __init__(self, text, target):
        self.text = text
        self.target = target

    def by_value(self, numbers):
        return Lead([], self.text, self.target)

    def by_text(self, text):
        if text[:len(self.text)] == self.text:
            return [Lead([], self.text, self.target)]
        return []


class NumberStep:
    def __init__(self, lo, hi, target):
        self.lo = lo
        self.hi = hi
        self.target = target

    def by_value(self, numbers):
        if not numbers:
            return None
        width = self.lo if self.lo == self.hi else 1
        digits = spelled(str(numbers[0]).zfill(width))
        if self.lo <= len(digits) <= self.hi:
            return Lead(numbers[:1], digits, self.target)
        return None

    # Digits count only if they are their own number's print: so zeros in front are judged
    # in one place.
    def by_text(self, text):
        leads = []
        for digits in beginnings(text, self.lo, self.hi):
            if all([is_digit(byte) for byte in digits]):
                lead = self.by_value([number_of(digits)])
                if lead is not None and lead.text == digits:
                    leads.append(lead)
        return leads


class WordStep:
    def __init__(self, lo, hi, target):
        self.lo = lo
        self.hi = hi
        self.target = target

    def by_value(self, numbers):
        if not numbers or not self.lo <= numbers[0] <= self.hi:
            return None
        letters = numbers[1:1 + numbers[0]]
        if len(letters) < numbers[0] or max(letters) >= LETTER_COUNT:
            return None
        return Lead(numbers[:1] + letters, [SMALL_A + letter for letter in letters], self.target)

    def by_text(self, text):
        leads = []
        for letters in beginnings(text, self.lo, self.hi):
            if all([is_letter(byte) for byte in letters]):
                numbers = [len(letters)] + [byte - SMALL_A for byte in letters]
                leads.append(Lead(numbers, letters, self.target))
        return leads


# Its leads print nothing: each is one number, and what that number chooses.
class ChoiceStep:
    def __init__(self, leads):
        self.leads = leads

    def by_value(self, numbers):
        for lead in self.leads:
            if lead.numbers == numbers[:1]:
                return lead
        return None

    def by_text(self, text):
        return list(self.leads)


# The longer ones first, as in scannings.
def beginnings(text, lo, hi):
    return [text[:size] for size in range(min(hi, len(text)), lo - 1, -1)]
