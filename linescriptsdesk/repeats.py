"""Texts that are run again with what comes of them."""

from linescriptsdesk.faults import TooMuch
from linescriptsdesk.runs import coming_letters, run_script
from linescriptsdesk.texts import MOST_TEXT_LINES

MOST_RUNS = 10


def run_again(commands, text, runs):
    for done in range(runs):
        text = run_once(commands, text)
    return text


# None if it is not at rest by the most runs; that it is, one run more has to show.
def runs_to_rest(commands, text):
    for runs in range(MOST_RUNS + 1):
        result = run_once(commands, text)
        if result == text:
            return runs
        text = result
    return None


def run_once(commands, text):
    # What came of the run before may have more lines than a run may begin with.
    if len(text) > MOST_TEXT_LINES:
        raise TooMuch()
    return coming_letters(run_script(commands, text))
