"""The tokens of a script as its commands; faults 3, 4 and 7."""

from linescriptsdesk.faults import Fault
from linescriptsdesk.tokens import END, LETTERS_WORD, NUMBER, read_tokens

BARE_ADDRESSES = ("all", "last")
LETTERS_ADDRESSES = ("has", "is")
BARE_DEEDS = ("delete", "keep", "bring", "trade", "stop")
LETTERS_DEEDS = ("before", "after", "change")
EXCHANGE_DEEDS = ("swap", "first")

MOST_COMMANDS = 16
MOST_NOTS = 3
LAST_LINE_NUMBER = 99
MOST_LEFT_OUT = 9

NOT_ALLOWED = 3
TOO_MANY = 4
OUT_OF_BOUNDS = 7


# An address (without its nots) and a deed are tuples each: the word that names
# them, then the letters and numbers they are told with, where "" is none.
class Command:
    def __init__(self, nots, address, deed):
        self.nots = nots
        self.address = address
        self.deed = deed


class TokenReader:
    def __init__(self, tokens):
        self.tokens = tokens
        self.at = 0

    def front(self):
        return self.tokens[self.at]

    def stands(self, value):
        return self.front().value == value

    def take(self):
        token = self.front()
        self.at += 1
        return token

    def take_given(self, value):
        token = self.take()
        if token.value != value:
            raise Fault(NOT_ALLOWED, token.place)

    def take_letters(self):
        token = self.take()
        if token.kind != LETTERS_WORD:
            raise Fault(NOT_ALLOWED, token.place)
        return token.value

    def take_letters_or_none(self):
        if self.stands("none"):
            self.take()
            return ""
        return self.take_letters()

    def take_number(self, least, most):
        token = self.take()
        if token.kind != NUMBER:
            raise Fault(NOT_ALLOWED, token.place)
        if token.value < least or token.value > most:
            raise Fault(OUT_OF_BOUNDS, token.place)
        return token.value


def read_commands(script):
    reader = TokenReader(read_tokens(script))
    commands = []
    while reader.front().kind != END:
        if len(commands) == MOST_COMMANDS:
            raise Fault(TOO_MANY, reader.front().place)
        commands.append(read_command(reader))
    return commands


def read_command(reader):
    nots = 0
    address = ("all",)
    if reader.stands("if"):
        reader.take()
        nots = read_nots(reader)
        address = read_address(reader)
    deed = read_deed(reader)
    reader.take_given(";")
    return Command(nots, address, deed)


def read_nots(reader):
    nots = 0
    while reader.stands("not"):
        if nots == MOST_NOTS:
            raise Fault(TOO_MANY, reader.front().place)
        reader.take()
        nots += 1
    return nots


def read_address(reader):
    token = reader.take()
    name = token.value
    if name in BARE_ADDRESSES:
        return (name,)
    if name in LETTERS_ADDRESSES:
        return (name, reader.take_letters())
    if name == "line":
        return (name, reader.take_number(1, LAST_LINE_NUMBER))
    if name == "from":
        begin = reader.take_number(1, LAST_LINE_NUMBER)
        reader.take_given("to")
        return (name, begin, reader.take_number(begin, LAST_LINE_NUMBER))
    raise Fault(NOT_ALLOWED, token.place)


def read_deed(reader):
    token = reader.take()
    name = token.value
    if name in BARE_DEEDS:
        return (name,)
    if name in LETTERS_DEEDS:
        return (name, reader.take_letters())
    if name in EXCHANGE_DEEDS:
        old = reader.take_letters()
        return (name, old, reader.take_letters_or_none())
    if name == "skip":
        return (name, reader.take_number(1, MOST_LEFT_OUT))
    raise Fault(NOT_ALLOWED, token.place)
