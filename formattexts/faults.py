"""The faults of sources."""

NO_TOKEN = 1
OUT_OF_PLACE = 2
OUT_OF_BOUNDS = 3
TOO_MANY = 4
REPEAT_WITHIN_REPEAT = 5
TOO_MUCH_GONE_THROUGH = 6


class Fault(Exception):
    def __init__(self, kind, place):
        Exception.__init__(self)
        self.kind = kind
        self.place = place
