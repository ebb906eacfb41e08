"""The faults of a text that is no right table."""

TOO_LONG = 1
NO_TOKEN = 2
NOT_ALLOWED = 3
TOO_MANY = 4
COLUMN_TWICE = 5
ASKED_TWICE = 6
OUT_OF_BOUNDS = 7
NO_COLUMN = 8


class Fault(Exception):
    """The first fault of a text: its code and the place where it stands."""

    def __init__(self, code, place):
        Exception.__init__(self, code, place)
        self.code = code
        self.place = place
