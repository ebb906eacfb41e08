"""The tokens of a text: words, names, numbers, signs and the text's end."""

from keptgroupings.faults import NO_TOKEN, Fault

BLANKS = (32, 9, 10)
LINE_FEED = 10
REMARK = 35
DIGIT_ZERO = 48
SIGNS = {44: ",", 58: ":", 59: ";", 45: "-"}
WORDS = ("columns", "row", "ask", "times")
LONGEST_NAME = 16
LONGEST_NUMBER = 10
GREATEST_NUMBER = 1000000000


class Token:
    """Its kind; a name's bytes or a number's value; where it begins; the place behind it."""

    def __init__(self, kind, said, place, behind):
        self.kind = kind
        self.said = said
        self.place = place
        self.behind = behind


def tokens_of(text):
    """All tokens in order, the text's end the last; Fault where none begins."""
    tokens = []
    place = behind_blanks(text, 0)
    while place < len(text):
        token = token_at(text, place)
        tokens.append(token)
        place = behind_blanks(text, token.behind)
    tokens.append(Token("end", 0, len(text), len(text)))
    return tokens


def bytes_of(letters):
    return [ord(letter) for letter in letters]


def behind_blanks(text, place):
    """The first place from here on that is neither blank nor in a remark."""
    while place < len(text) and (text[place] in BLANKS or text[place] == REMARK):
        if text[place] == REMARK:
            place = behind_remark(text, place)
        else:
            place += 1
    return place


def behind_remark(text, place):
    while place < len(text) and text[place] != LINE_FEED:
        place += 1
    return place


def token_at(text, place):
    byte = text[place]
    if is_letter(byte):
        return word_at(text, place)
    if is_digit(byte):
        return number_at(text, place)
    if byte in SIGNS:
        return Token(SIGNS[byte], 0, place, place + 1)
    raise Fault(NO_TOKEN, place)


def word_at(text, place):
    behind = place
    while behind < len(text) and (is_letter(text[behind]) or is_digit(text[behind])):
        behind += 1
    if behind - place > LONGEST_NAME:
        raise Fault(NO_TOKEN, place)
    said = text[place:behind]
    return Token(kind_of_word(said), said, place, behind)


def number_at(text, place):
    behind = place
    while behind < len(text) and is_digit(text[behind]):
        behind += 1
    digits = text[place:behind]
    if len(digits) > LONGEST_NUMBER or (len(digits) > 1 and digits[0] == DIGIT_ZERO):
        raise Fault(NO_TOKEN, place)
    said = value_of(digits)
    if said > GREATEST_NUMBER:
        raise Fault(NO_TOKEN, place)
    return Token("number", said, place, behind)


def kind_of_word(said):
    for word in WORDS:
        if said == bytes_of(word):
            return word
    return "name"


def value_of(digits):
    value = 0
    for digit in digits:
        value = value * 10 + digit - DIGIT_ZERO
    return value


def is_letter(byte):
    return 65 <= byte <= 90 or 97 <= byte <= 122


def is_digit(byte):
    return 48 <= byte <= 57
