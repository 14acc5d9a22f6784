"""Calls in the form that the interface tells, and its answers one by one."""

from linescriptsdesk.scripts import answers

OWN_WORDS = (
    "if all line from to last has is not delete before after change swap first "
    "keep bring trade skip stop none"
).split()

SCRIPT = "if has a swap a bb ; if line 2 keep ; if is c delete ; if last bring ; if not last after z ;"
TEXT = "xa\nca\nc\naa\n"


def row(signs):
    """The bytes of a text, or a list of bytes as it is, with its length ahead."""
    told = [ord(sign) for sign in signs] if isinstance(signs, str) else list(signs)
    return [len(told)] + told


def load(script):
    return [0] + row(script)


def shown():
    return [1]


def run(text):
    return [2] + row(text)


def origins(text):
    return [3] + row(text)


def trace(k, text):
    return [4, k] + row(text)


def held(text):
    return [5] + row(text)


def touched(text):
    return [6] + row(text)


def again(n, text):
    return [7, n] + row(text)


def rest(text):
    return [8] + row(text)


def told(*calls):
    """The answers to these calls on one object, each a list."""
    numbers = answers([number for call in calls for number in call])
    parts = []
    at = 0
    while at < len(numbers):
        size = numbers[at]
        parts.append(numbers[at + 1:at + 1 + size])
        assert len(parts[-1]) == size
        at += 1 + size
    assert len(parts) == len(calls)
    return parts


def loaded(script):
    return told(load(script))[0]


def after_load(script, call):
    first, second = told(load(script), call)
    assert first[0] == 1, first
    return second


def lines_of(answer):
    """The lines that a run's answer tells, once its two counts are seen to be right."""
    count, size, told_bytes = answer[0], answer[1], answer[2:]
    assert size == len(told_bytes)
    lines = "".join(chr(byte) for byte in told_bytes).split("\n")
    assert lines.pop() == ""
    assert count == len(lines)
    return lines


def as_text(lines):
    return "".join(line + "\n" for line in lines)


def coming(script, *lines):
    return lines_of(after_load(script, run(as_text(lines))))


def came_from(script, *lines):
    """The origins, as pairs of a line's number and a command's."""
    answer = after_load(script, origins(as_text(lines)))
    pairs = list(zip(answer[1::2], answer[2::2]))
    assert len(answer) == 1 + 2 * answer[0]
    return pairs


def done(script, k, *lines):
    answer = after_load(script, trace(k, as_text(lines)))
    assert answer[0] == len(answer) - 1
    return answer[1:]


def held_at_end(script, *lines):
    answer = after_load(script, held(as_text(lines)))
    assert answer[0] == len(answer) - 1
    return "".join(chr(byte) for byte in answer[1:])


def touches(script, *lines):
    """For each line: whether it comes, how many are put ahead, and how many behind."""
    answer = after_load(script, touched(as_text(lines)))
    assert len(answer) == 1 + 3 * answer[0]
    return list(zip(answer[1::3], answer[2::3], answer[3::3]))


def coming_again(script, n, *lines):
    return lines_of(after_load(script, again(n, as_text(lines))))


def at_rest(script, *lines):
    return after_load(script, rest(as_text(lines)))


def form(script):
    answer = after_load(script, shown())
    assert answer[0] == len(answer) - 1
    return "".join(chr(byte) for byte in answer[1:])
