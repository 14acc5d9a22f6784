"""The object that the calls are on, and what they answer."""

from linescriptsdesk.commands import read_commands
from linescriptsdesk.faults import Fault, NoScript, NoSuchLine
from linescriptsdesk.forms import one_form
from linescriptsdesk.letters import bytes_of
from linescriptsdesk.runs import coming_lines, run_script
from linescriptsdesk.texts import read_text, text_bytes


class Desk:
    def __init__(self):
        self.commands = None

    def held_commands(self):
        if self.commands is None:
            raise NoScript()
        return self.commands


def answer_load(desk, script):
    try:
        commands = read_commands(script)
    except Fault as fault:
        return [0, fault.code, fault.place]
    desk.commands = commands
    return [1, len(commands)]


def answer_shown(desk):
    form = bytes_of(one_form(desk.held_commands()))
    return [len(form)] + form


def answer_run(desk, row):
    coming = coming_lines(run_told(desk, row))
    told = text_bytes([line.letters for line in coming])
    return [len(coming), len(told)] + told


def answer_origins(desk, row):
    coming = coming_lines(run_told(desk, row))
    answer = [len(coming)]
    for line in coming:
        answer.append(line.line_number)
        answer.append(line.command_number)
    return answer


def answer_trace(desk, k, row):
    run = run_told(desk, row)
    if k < 1 or k > len(run.lines):
        raise NoSuchLine()
    done = run.lines[k - 1].done
    return [len(done)] + done


# The refusals stand in their order here: no script, no text, too much.
def run_told(desk, row):
    commands = desk.held_commands()
    text = read_text(row)
    return run_script(commands, text)
