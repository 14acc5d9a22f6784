"""The object that the calls are on, and what they answer."""

from linescriptsdesk.commands import read_commands
from linescriptsdesk.faults import Fault, NoScript, NoSuchLine, NotSoOften
from linescriptsdesk.forms import one_form
from linescriptsdesk.letters import bytes_of
from linescriptsdesk.repeats import MOST_RUNS, run_again, runs_to_rest
from linescriptsdesk.runs import coming_letters, coming_lines, run_script
from linescriptsdesk.texts import read_text, text_bytes

COMES_AS_IT_WAS = 0
COMES_OTHERWISE = 1
DOES_NOT_COME = 2


class Desk:
    def __init__(self):
        self.commands = None

    def held_commands(self):
        if self.commands is None:
            raise NoScript()
        return self.commands


def answer_load(desk, script):
    try:
        commands = read_commands(script)
    except Fault as fault:
        return [0, fault.code, fault.place]
    desk.commands = commands
    return [1, len(commands)]


def answer_shown(desk):
    form = bytes_of(one_form(desk.held_commands()))
    return [len(form)] + form


def answer_run(desk, row):
    return lines_answer(coming_letters(run_told(desk, row)))


def lines_answer(lines):
    told = text_bytes(lines)
    return [len(lines), len(told)] + told


def answer_origins(desk, row):
    coming = coming_lines(run_told(desk, row))
    answer = [len(coming)]
    for line in coming:
        answer.append(line.line_number)
        answer.append(line.command_number)
    return answer


def answer_trace(desk, k, row):
    run = run_told(desk, row)
    if k < 1 or k > len(run.lines):
        raise NoSuchLine()
    done = run.lines[k - 1].done
    return [len(done)] + done


def answer_held(desk, row):
    held = bytes_of(run_told(desk, row).held)
    return [len(held)] + held


def answer_touched(desk, row):
    run = run_told(desk, row)
    answer = [len(run.lines)]
    for line in run.lines:
        answer.extend([touch_of(line), len(line.ahead), len(line.behind)])
    return answer


def touch_of(line):
    if line.is_deleted:
        return DOES_NOT_COME
    return COMES_AS_IT_WAS if line.letters == line.told_letters else COMES_OTHERWISE


# How often is looked at behind the text, and ahead of any run.
def answer_again(desk, n, row):
    commands = desk.held_commands()
    text = read_text(row)
    if n < 0 or n > MOST_RUNS:
        raise NotSoOften()
    return lines_answer(run_again(commands, text, n))


def answer_rest(desk, row):
    commands = desk.held_commands()
    runs = runs_to_rest(commands, read_text(row))
    return [0] if runs is None else [1, runs]


# The refusals stand in their order here: no script, no text, too much.
def run_told(desk, row):
    commands = desk.held_commands()
    text = read_text(row)
    return run_script(commands, text)
