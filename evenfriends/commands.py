"""The commands of a house as tuples of a word and what its method is passed."""

# How many things stand behind each word.
SIZES = {
    "put": 2, "take": 1, "deed": 2, "wish": 2, "unwish": 1, "guest": 2, "leave": 2, "exchange": 2, "to_manner": 2,
    "swap": 2,
}


def put_there(house, command):
    """Carry out a put."""
    return house.put(command[1], command[2])


def take_away(house, command):
    """Carry out a take."""
    return house.take(command[1])


def do_deed(house, command):
    """Carry out a deed."""
    return house.deed(command[1], command[2])


def give_wishes(house, command):
    """Carry out a wish."""
    return house.wish(command[1], command[2])


def take_wishes(house, command):
    """Carry out an unwish."""
    return house.unwish(command[1])


def let_come(house, command):
    """Carry out a guest."""
    return house.guest(command[1], command[2])


def let_go(house, command):
    """Carry out a leave."""
    return house.leave(command[1], command[2])


def put_instead(house, command):
    """Carry out an exchange."""
    return house.exchange(command[1], command[2])


def give_manner(house, command):
    """Carry out a to_manner."""
    return house.to_manner(command[1], command[2])


def change_places(house, command):
    """Carry out a swap."""
    return house.swap(command[1], command[2])


ACTIONS = {
    "put": put_there, "take": take_away, "deed": do_deed, "wish": give_wishes, "unwish": take_wishes,
    "guest": let_come, "leave": let_go, "exchange": put_instead, "to_manner": give_manner, "swap": change_places,
}


def carry_out(house, command):
    """Call the method of a command's word, and return what it returns."""
    action = ACTIONS[command[0]]
    return action(house, command)


def has_form(value):
    """Tell whether any object is a tuple of the word of a command and as many things as its method is passed."""
    if not isinstance(value, tuple) or len(value) == 0 or not isinstance(value[0], str):
        return False
    return value[0] in SIZES and len(value) == SIZES[value[0]] + 1


def command_anew(command):
    """Return a command in which wishes are a new dictionary."""
    if command[0] == "wish":
        return ("wish", command[1], {pair: command[2][pair] for pair in command[2]})
    return command
