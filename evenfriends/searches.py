"""Searches through all that deeds lead to, for few people: states are tuples of rows."""

from evenfriends.rows import are_in, let_in, pairs_in, rows_behind


def all_states(many):
    """Return the list of the states of all companies of so many people."""
    none = tuple([0] * many)
    found = [none]
    for pair in pairs_in(none):
        found = found + [tuple(rows_behind(state, [pair])) for state in found]
    return found


def steps_of(state, manner):
    """Return the list of the deeds that are let at a state, ascending, each with the state behind it."""
    return [(deed, tuple(rows_behind(state, [deed]))) for deed in let_in(state, manner)]


def widened(found, layer, manner):
    """Add the states one deed behind some states to those that were found, and return the list of the new ones."""
    newer = []
    for state in layer:
        far = found[state][0] + 1
        for deed, behind in steps_of(state, manner):
            if behind not in found:
                found[behind] = (far, state, deed)
                newer.append(behind)
    return newer


def explored(rows, manner):
    """Return the dictionary from each state joined with rows, nearest first, to (how far, state before, deed)."""
    layer = [tuple(rows)]
    found = {layer[0]: (0, None, None)}
    while len(layer) > 0:
        layer = widened(found, layer, manner)
    return found


def deeds_to(found, state):
    """Return the fewest deeds that lead to a state that was found."""
    deeds = []
    _, before, deed = found[state]
    while deed is not None:
        deeds.append(deed)
        _, before, deed = found[before]
    deeds.reverse()
    return deeds


def shortest_deeds(rows, other, manner):
    """Return the fewest deeds that lead from rows to other rows, None if none do."""
    layer = [tuple(rows)]
    goal = tuple(other)
    found = {layer[0]: (0, None, None)}
    while goal not in found and len(layer) > 0:
        layer = widened(found, layer, manner)
    return deeds_to(found, goal) if goal in found else None


def does_state_meet(state, wanted):
    """Tell whether in a state just those of some pairs are friends who are wanted to be, from (pair, wish)."""
    return all([are_in(state, one, other) == wish for (one, other), wish in wanted])


def shortest_to_wishes(rows, wanted, manner):
    """Return the fewest deeds that lead from rows to where pairs are as wanted, None if none do."""
    layer = [tuple(rows)]
    found = {layer[0]: (0, None, None)}
    while len(layer) > 0:
        goals = [state for state in layer if does_state_meet(state, wanted)]
        if len(goals) > 0:
            return deeds_to(found, goals[0])
        layer = widened(found, layer, manner)
    return None


def numbered_steps(rows, manner, size):
    """Return the states of roads of so many deeds, layer by layer, with their steps.

    Each layer is a dictionary from the states that so many deeds lead to, to the lists of their steps.
    """
    known = {}
    layers = []
    layer = [tuple(rows)]
    for _ in range(size + 1):
        for state in layer:
            if state not in known:
                known[state] = steps_of(state, manner)
        layers.append({state: known[state] for state in layer})
        layer = list({behind: True for state in layer for _, behind in known[state]})
    return layers


def road_numbers(layers):
    """Return, for each layer, the dictionary from its states to the numbers of ways from there to the last layer."""
    numbers = [{state: 1 for state in layers[-1]}]
    for layer in reversed(layers[:-1]):
        later = numbers[-1]
        numbers.append({state: sum([later[behind] for _, behind in steps]) for state, steps in layer.items()})
    numbers.reverse()
    return numbers
