"""Runs of a script over a text."""

from linescriptsdesk.faults import TooMuch
from linescriptsdesk.texts import MOST_LINE_LETTERS

MOST_COMING_LINES = 60


# A line that comes, with its origin: the number of the line of the text with
# which it comes, and the command that put it, or -1.
class Coming:
    def __init__(self, letters, line_number, command_number):
        self.letters = letters
        self.line_number = line_number
        self.command_number = command_number


class Line:
    def __init__(self, number, is_last, letters):
        self.number = number
        self.is_last = is_last
        self.told_letters = letters
        self.letters = letters
        self.ahead = []
        self.behind = []
        self.is_deleted = False
        self.is_ended = False
        self.left_out = 0
        self.done = []


class Run:
    def __init__(self):
        self.held = ""
        self.lines = []


def run_script(commands, text):
    run = Run()
    for number, letters in enumerate(text, start=1):
        line = Line(number, number == len(text), letters)
        run_line(run, line, commands)
        run.lines.append(line)
    if len(coming_lines(run)) > MOST_COMING_LINES:
        raise TooMuch()
    return run


def coming_lines(run):
    coming = []
    for line in run.lines:
        coming.extend(line.ahead)
        if not line.is_deleted:
            coming.append(Coming(line.letters, line.number, -1))
        coming.extend(line.behind)
    return coming


def coming_letters(run):
    return [line.letters for line in coming_lines(run)]


def run_line(run, line, commands):
    for number, command in enumerate(commands):
        if line.is_ended:
            return
        if line.left_out > 0:
            line.left_out -= 1
        elif command_holds(command, line):
            line.done.append(number)
            do_deed(run, line, number, command.deed)


def command_holds(command, line):
    holds = address_holds(command.address, line)
    return holds if command.nots % 2 == 0 else not holds


def address_holds(address, line):
    name = address[0]
    if name == "line":
        return line.number == address[1]
    if name == "from":
        return address[1] <= line.number <= address[2]
    if name == "last":
        return line.is_last
    if name == "has":
        return address[1] in line.letters
    if name == "is":
        return line.letters == address[1]
    return True


def do_deed(run, line, number, deed):
    name = deed[0]
    if name == "delete":
        line.is_deleted = True
        line.is_ended = True
    elif name == "stop":
        line.is_ended = True
    elif name == "before":
        line.ahead.append(Coming(deed[1], line.number, number))
    elif name == "after":
        line.behind.append(Coming(deed[1], line.number, number))
    elif name == "bring":
        line.behind.append(Coming(run.held, line.number, number))
    elif name == "keep":
        run.held = line.letters
    elif name == "trade":
        trade_letters(run, line)
    elif name == "skip":
        line.left_out = deed[1]
    else:
        line.letters = changed_letters(line.letters, deed)


def trade_letters(run, line):
    letters = line.letters
    line.letters = run.held
    run.held = letters


def changed_letters(letters, deed):
    if deed[0] == "change":
        return deed[1]
    if deed[0] == "swap":
        changed = letters.replace(deed[1], deed[2])
    else:
        changed = letters.replace(deed[1], deed[2], 1)
    # A line that gets too long is too much, even if a later command shortens or deletes it.
    if len(changed) > MOST_LINE_LETTERS:
        raise TooMuch()
    return changed
