"""A list of calls, answered one behind another."""

from linescriptsdesk.desk import Desk, answer_again, answer_held, answer_load, answer_origins
from linescriptsdesk.desk import answer_rest, answer_run, answer_shown, answer_touched, answer_trace
from linescriptsdesk.faults import NoScript, NoSuchLine, NotAText, NotSoOften, TooMuch

LOAD = 0
SHOWN = 1
RUN = 2
ORIGINS = 3
TRACE = 4
HELD = 5
TOUCHED = 6
AGAIN = 7
REST = 8


class CallReader:
    def __init__(self, calls):
        self.calls = calls
        self.at = 0

    def has_more(self):
        return self.at < len(self.calls)

    def take_whole(self):
        whole = self.calls[self.at]
        self.at += 1
        return whole

    def take_row(self):
        size = self.take_whole()
        row = self.calls[self.at:self.at + size]
        self.at += size
        return row


def answers(calls):
    desk = Desk()
    reader = CallReader(calls)
    told = []
    while reader.has_more():
        answer = answer_or_refusal(desk, reader)
        told.append(len(answer))
        told.extend(answer)
    return told


def answer_or_refusal(desk, reader):
    try:
        return answer_call(desk, reader)
    except NoScript:
        return [-1]
    except NotAText:
        return [-4]
    except TooMuch:
        return [-7]
    except NoSuchLine:
        return [-3]
    except NotSoOften:
        return [-3]


# A call is taken whole ahead of any refusal, so that the next one is found.
def answer_call(desk, reader):
    call = reader.take_whole()
    if call == LOAD:
        return answer_load(desk, reader.take_row())
    if call == SHOWN:
        return answer_shown(desk)
    if call == RUN:
        return answer_run(desk, reader.take_row())
    if call == ORIGINS:
        return answer_origins(desk, reader.take_row())
    if call == TRACE:
        k = reader.take_whole()
        return answer_trace(desk, k, reader.take_row())
    if call == HELD:
        return answer_held(desk, reader.take_row())
    if call == TOUCHED:
        return answer_touched(desk, reader.take_row())
    if call == AGAIN:
        n = reader.take_whole()
        return answer_again(desk, n, reader.take_row())
    if call == REST:
        return answer_rest(desk, reader.take_row())
    raise ValueError(f"no call has the number {call}")
