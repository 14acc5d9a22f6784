"""Commands in their one form."""


def one_form(commands):
    return "".join([command_form(command) for command in commands])


def command_form(command):
    words = condition_words(command) + deed_words(command.deed) + [";"]
    return " ".join(words) + "\n"


def condition_words(command):
    if command.nots == 0 and command.address == ("all",):
        return []
    return ["if"] + ["not"] * command.nots + address_words(command.address)


def address_words(address):
    if address[0] == "from":
        return ["from", str(address[1]), "to", str(address[2])]
    return [str(part) for part in address]


def deed_words(deed):
    return ["none" if part == "" else str(part) for part in deed]
