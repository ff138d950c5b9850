"""Scripts: lists of commands for a house, played, written as texts and read, and shortened."""

from evenfriends.commands import carry_out, command_anew
from evenfriends.companies import Company, is_pair, is_person
from evenfriends.errors import FriendError, InvalidScript, InvalidText
from evenfriends.forms import is_count
from evenfriends.house import House, check_house
from evenfriends.manners import is_manner
from evenfriends.papers import check_text, company_from, company_lines, lines_in, wish_lines, wishes_from
from evenfriends.wishforms import is_wishes

# What stands behind the word of each command.
SHAPES = {
    "put": ("company", "manner"), "take": ("spot",), "deed": ("spot", "pair"), "wish": ("spot", "wishes"),
    "unwish": ("spot",), "guest": ("spot", "person"), "leave": ("spot", "person"), "exchange": ("spot", "company"),
    "to_manner": ("spot", "manner"), "swap": ("spot", "spot"), "lets": ("spot",), "met": ("spot",), "undo": (),
    "redo": (), "try": ("script",),
}
# These are written in lines of their own.
BLOCKS = ("company", "wishes", "script")
END = "end"
INDENT = "  "
FIGURES = "0123456789"


def is_thing(kind, value):
    """Tell whether any object is of a kind that stands in commands."""
    if kind == "company":
        return isinstance(value, Company)
    if kind == "manner":
        return is_manner(value)
    if kind == "spot":
        return is_count(value)
    if kind == "pair":
        return is_pair(value)
    if kind == "person":
        return is_person(value)
    return is_wishes(value) if kind == "wishes" else is_script(value)


def is_command(value):
    """Tell whether any object is a command of a script."""
    if not isinstance(value, tuple) or len(value) == 0 or not isinstance(value[0], str) or value[0] not in SHAPES:
        return False
    kinds = SHAPES[value[0]]
    if len(value) != len(kinds) + 1:
        return False
    return all([is_thing(kind, thing) for kind, thing in zip(kinds, value[1:])])


def is_script(value):
    """Tell whether any object is a script."""
    return isinstance(value, list) and all([is_command(command) for command in value])


def check_script(script):
    """Raise InvalidScript unless any object is a script."""
    if not is_script(script):
        raise InvalidScript(script)


def played_try(house, script):
    """Play a script in a block of a house, and return what is said."""
    with house.trial():
        return ("tried", played(house, script))


def told_by(house, command):
    """Carry out a command that is no try, and return what is said if no error is raised."""
    word = command[0]
    if word == "lets":
        return ("lets", house.lets(command[1]))
    if word == "met":
        return ("met", house.is_met(command[1]))
    if word == "undo":
        house.undo()
        return ("done",)
    if word == "redo":
        house.redo()
        return ("done",)
    answer = carry_out(house, command)
    return (word, answer) if word in ("put", "deed") else ("done",)


def said_of(house, command):
    """Carry out a command, and return what is said."""
    if command[0] == "try":
        return played_try(house, command[1])
    try:
        return told_by(house, command)
    except FriendError as error:
        return ("refused", type(error).__name__)


def played(house, script):
    """Carry out the commands of a script, and return the list of what is said."""
    return [said_of(house, command) for command in script]


def play(house, script):
    """Carry out a script on a house, which it changes, and return the list of what is said."""
    check_house(house)
    check_script(script)
    return played(house, script)


def pieces_of(kind, thing):
    """Return the pieces that a thing has in the line of its command, none for what has lines of its own."""
    if kind == "spot":
        return [str(thing)]
    if kind == "person":
        return [thing]
    if kind == "pair":
        return list(thing)
    return [str(number) for number in thing[0]] + [thing[1]] if kind == "manner" else []


def block_of(kind, thing):
    """Return the lines that a thing has by itself."""
    if kind == "company":
        return company_lines(thing)
    return wish_lines(thing) if kind == "wishes" else script_lines(thing)


def command_lines(command):
    """Return the lines of a command."""
    things = list(zip(SHAPES[command[0]], command[1:]))
    pieces = [command[0]] + [piece for kind, thing in things for piece in pieces_of(kind, thing)]
    blocks = [block_of(kind, thing) for kind, thing in things if kind in BLOCKS]
    inner = [INDENT + line for block in blocks for line in block]
    return [" ".join(pieces)] + inner + ([] if len(blocks) == 0 else [END])


def script_lines(script):
    """Return the lines of a script."""
    return [line for command in script for line in command_lines(command)]


def script_text(script):
    """Return the text of a script."""
    check_script(script)
    return "\n".join(script_lines(script))


def number_from(piece):
    """Return the count that a piece tells of, None if it tells of none."""
    are_figures = len(piece) > 0 and all([sign in FIGURES for sign in piece])
    return int(piece) if are_figures else None


def thing_from(kind, pieces, block):
    """Return the thing that pieces, or a block of lines, tell of, or what is none."""
    if kind == "company":
        return company_from(block)
    if kind == "wishes":
        return wishes_from(block)
    if kind == "script":
        return script_from(block)
    if kind == "manner":
        return (tuple([number_from(piece) for piece in pieces[:-1]]), "".join(pieces[-1:]))
    if kind == "pair":
        return tuple(pieces[:2])
    return number_from("".join(pieces[:1])) if kind == "spot" else "".join(pieces[:1])


def taken_by(kind, pieces):
    """Return how many of the pieces that are left a thing of a kind takes."""
    if kind in BLOCKS:
        return 0
    if kind == "manner":
        return len(pieces)
    return 2 if kind == "pair" else 1


def command_from(line, block):
    """Return the command that a line and a block of lines, however written, tell of, or what is none."""
    pieces = line.split(" ")
    word = pieces.pop(0)
    made = [word]
    for kind in SHAPES[word]:
        made.append(thing_from(kind, pieces, block))
        pieces = pieces[taken_by(kind, pieces):]
    return tuple(made)


def has_block(line):
    """Tell whether behind the line of a command a block of lines follows."""
    word, _, _ = line.partition(" ")
    return any([kind in BLOCKS for kind in SHAPES[word]])


def block_behind(lines, at):
    """Return the lines ahead of the first one from a place on that ends a block, as many as are there."""
    found = []
    for line in lines[at:]:
        if line == END:
            return found
        found.append(line)
    return found


def script_from(lines):
    """Return the script that lines tell of, None if some line cannot stand where it stands."""
    made = []
    at = 0
    while at < len(lines):
        word, _, _ = lines[at].partition(" ")
        if word not in SHAPES:
            return None
        block = block_behind(lines, at + 1) if has_block(lines[at]) else []
        if not all([line.startswith(INDENT) for line in block]):
            return None
        made.append(command_from(lines[at], [line[len(INDENT):] for line in block]))
        at += len(block) + (2 if has_block(lines[at]) else 1)
    return made


def read_script(text):
    """Return the script that has a text."""
    check_text(text)
    script = script_from(lines_in(text))
    # What is read may have been written otherwise: with noughts ahead, in another order, without an end.
    if not is_script(script) or script_text(script) != text:
        raise InvalidText(text)
    return script


def end_found(script):
    """Return the dictionary from the spots to what is there when a script was played on a new house."""
    house = House()
    played(house, script)
    return {at: (house.company_there(at), house.manner_there(at), house.wishes_there(at)) for at in house.spots()}


def end_of(script):
    """Return the dictionary from the spots, ascending, to what is there when a script was played on a new house."""
    check_script(script)
    return end_found(script)


def shortened(script):
    """Return what is left of a script without the commands, from the last one on, that its end does not rest on."""
    check_script(script)
    goal = end_found(script)
    left = list(script)
    for at in reversed(range(len(script))):
        fewer = left[:at] + left[at + 1:]
        if end_found(fewer) == goal:
            left = fewer
    # A try leaves the house as it was, so none is left here.
    return [command_anew(command) for command in left]
