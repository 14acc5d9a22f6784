"""Bytes as letters, and letters as bytes."""

LETTERS = "abcdefghijklmnopqrstuvwxyz"
FIRST_LETTER = 97
LAST_LETTER = 122
LINE_END = 10


def is_letter(byte):
    return FIRST_LETTER <= byte <= LAST_LETTER


def letters_of(row):
    return "".join([LETTERS[byte - FIRST_LETTER] for byte in row])


def bytes_of(signs):
    return [ord(sign) for sign in signs]
