"""Texts of lines: from bytes and to bytes."""

from linescriptsdesk.faults import NotAText
from linescriptsdesk.letters import LINE_END, bytes_of, is_letter, letters_of

MOST_LINE_LETTERS = 16
MOST_TEXT_LINES = 24


def read_text(row):
    lines = []
    begin = 0
    for at, byte in enumerate(row):
        if byte == LINE_END:
            lines.append(read_line(row[begin:at]))
            begin = at + 1
    # Bytes left over are a last line that nothing ends.
    if begin < len(row) or len(lines) > MOST_TEXT_LINES:
        raise NotAText()
    return lines


def read_line(row):
    if len(row) > MOST_LINE_LETTERS or not all([is_letter(byte) for byte in row]):
        raise NotAText()
    return letters_of(row)


def text_bytes(lines):
    row = []
    for letters in lines:
        row.extend(bytes_of(letters))
        row.append(LINE_END)
    return row
