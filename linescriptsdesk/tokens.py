"""The bytes of a script as tokens; faults 1 and 2."""

from linescriptsdesk.faults import Fault
from linescriptsdesk.letters import LINE_END, is_letter, letters_of

OWN_WORD = "own word"
LETTERS_WORD = "letters"
NUMBER = "number"
SIGN = "sign"
END = "end"

OWN_WORDS = (
    "if", "all", "line", "from", "to", "last", "has", "is", "not",
    "delete", "before", "after", "change", "swap", "first",
    "keep", "bring", "trade", "skip", "stop", "none",
)

BLANKS = (32, 9, 10)
REMARK = 35
SEMICOLON = 59
ZERO = 48
NINE = 57

MOST_BYTES = 4096
MOST_WORD_LETTERS = 8
GREATEST_NUMBER = 1000000000
MOST_DIGITS = 10

SCRIPT_TOO_LONG = 1
NO_TOKEN = 2


class Token:
    def __init__(self, kind, value, place, end):
        self.kind = kind
        self.value = value
        self.place = place
        self.end = end


def read_tokens(script):
    if len(script) > MOST_BYTES:
        raise Fault(SCRIPT_TOO_LONG, MOST_BYTES)
    tokens = []
    at = past_gaps(script, 0)
    while at < len(script):
        token = read_token(script, at)
        tokens.append(token)
        at = past_gaps(script, token.end)
    tokens.append(Token(END, "", at, at))
    return tokens


def past_gaps(script, at):
    while at < len(script):
        if script[at] == REMARK:
            at = past_remark(script, at)
        elif script[at] in BLANKS:
            at += 1
        else:
            return at
    return at


def past_remark(script, at):
    while at < len(script) and script[at] != LINE_END:
        at += 1
    return at


def read_token(script, at):
    if is_letter(script[at]):
        return read_word(script, at)
    if is_digit(script[at]):
        return read_number(script, at)
    if script[at] == SEMICOLON:
        return Token(SIGN, ";", at, at + 1)
    raise Fault(NO_TOKEN, at)


def read_word(script, at):
    end = past_letters(script, at)
    if end - at > MOST_WORD_LETTERS:
        raise Fault(NO_TOKEN, at)
    word = letters_of(script[at:end])
    kind = OWN_WORD if word in OWN_WORDS else LETTERS_WORD
    return Token(kind, word, at, end)


def past_letters(script, at):
    while at < len(script) and is_letter(script[at]):
        at += 1
    return at


def read_number(script, at):
    end = past_digits(script, at)
    has_needless_zero = script[at] == ZERO and end - at > 1
    # The digits are counted first, so that no number of thousands of them is reckoned.
    if has_needless_zero or end - at > MOST_DIGITS:
        raise Fault(NO_TOKEN, at)
    number = number_of(script[at:end])
    if number > GREATEST_NUMBER:
        raise Fault(NO_TOKEN, at)
    return Token(NUMBER, number, at, end)


def past_digits(script, at):
    while at < len(script) and is_digit(script[at]):
        at += 1
    return at


def is_digit(byte):
    return ZERO <= byte <= NINE


def number_of(digits):
    number = 0
    for digit in digits:
        number = number * 10 + digit - ZERO
    return number
