"""Nets: gates over inputs, with blanks that are to be filled so that the outs are a goal's."""

from onlyseen.answers import many
from onlyseen.checks import renewed
from onlyseen.errors import InvalidGoal, InvalidNet, InvalidPlay, InvalidTables
from onlyseen.marks import all_seen, place_in_table
from onlyseen.settling import settle
from onlyseen.shapes import are_names, are_truths, is_name, is_sight, is_tuple

MOST_INPUTS = 3
MOST_GATES = 12
MOST_BLANKS = 2

# Of how many names ahead each kind of gate is; a blank is of inputs alone.
SIZES = {"both": 2, "either": 2, "unlike": 2, "not": 1}


def is_one_of(value, names):
    """Whether an object is one of these names."""
    return is_name(value) and value in names


def is_gate(value, inputs, names):
    """Whether an object is a gate behind the inputs and gates that have these names."""
    if not isinstance(value, tuple) or len(value) != 3:
        return False
    name, kind, of = value
    if not is_name(name) or name in names or not isinstance(kind, str) or not isinstance(of, tuple):
        return False
    if kind == "blank":
        return is_sight(of, inputs)
    return kind in SIZES and len(of) == SIZES[kind] and all([is_one_of(part, names) for part in of])


def fits_net(value):
    """Whether an object is a net."""
    if not isinstance(value, tuple) or len(value) != 3:
        return False
    inputs, gates, outs = value
    if not are_names(inputs, MOST_INPUTS) or not is_tuple(gates, MOST_GATES):
        return False
    names = list(inputs)
    for gate in gates:
        if not is_gate(gate, inputs, names):
            return False
        names.append(gate[0])
    if len(blanks_of(value)) > MOST_BLANKS or not isinstance(outs, tuple) or not outs:
        return False
    return all([is_one_of(part, names) for part in outs])


def blanks_of(net):
    """The tuples (name, inputs) of the blanks of a net, in the sequence of the gates."""
    return [(name, of) for name, kind, of in net[1] if kind == "blank"]


def fits_goal(net, value):
    """Whether an object is a net without blanks that has as many inputs and as many outs as a net."""
    if not fits_net(value) or blanks_of(value):
        return False
    return len(value[0]) == len(net[0]) and len(value[2]) == len(net[2])


def fits_tables(net, value):
    """Whether an object is a tuple of tables, one for each blank of a net."""
    blanks = blanks_of(net)
    if not isinstance(value, tuple) or len(value) != len(blanks):
        return False
    return all([are_truths(table, 1 << len(of)) for table, (_, of) in zip(value, blanks)])


def want_net(net):
    """Raises InvalidNet for any object that is no net."""
    if not fits_net(net):
        raise InvalidNet(renewed(net))


def want_goal(net, goal):
    """Raises InvalidGoal for any object that is no goal for the net."""
    if not fits_goal(net, goal):
        raise InvalidGoal(renewed(goal))


def gate_truth(kind, truths):
    """The truth of a gate that is no blank, by those of the names that it is of."""
    if kind == "not":
        return not truths[0]
    one, other = truths
    if kind == "both":
        return one and other
    if kind == "either":
        return one or other
    return one != other


def outs_by(net, chosen, play):
    """The truths of the outs at a play when the blanks, in their sequence, have these truths there."""
    values = dict(zip(net[0], play))
    values.update({blank[0]: truth for blank, truth in zip(blanks_of(net), chosen)})
    for name, kind, of in net[1]:
        if name not in values:
            values[name] = gate_truth(kind, [values[part] for part in of])
    return tuple([values[name] for name in net[2]])


def is_net(value):
    """Whether any object is a net."""
    return fits_net(value)


def outs_at(net, tables, play):
    """The tuple of the truths of the outs of a net at a play of its inputs, its blanks being as tables tell."""
    want_net(net)
    if not fits_tables(net, tables):
        raise InvalidTables(renewed(tables))
    if not are_truths(play, len(net[0])):
        raise InvalidPlay(renewed(play))
    truths = dict(zip(net[0], play))
    places = [place_in_table([truths[name] for name in of]) for _, of in blanks_of(net)]
    return outs_by(net, [table[place] for table, place in zip(tables, places)], play)


def bars_of(net, goal):
    """The clauses that bar each play and choice of the blanks' truths at which some out is not the goal's."""
    names = list(net[0]) + [name for name, _ in blanks_of(net)]
    found = []
    for play in all_seen(net[0]):
        wanted = outs_by(goal, (), play)
        for chosen in all_seen(blanks_of(net)):
            if outs_by(net, chosen, play) != wanted:
                found.append(tuple(sorted([(name, not truth) for name, truth in zip(names, play + chosen)])))
    return tuple(sorted(found))


def net_saying(net, goal):
    """The saying that holds by the tables by which the outs of a net are those of its goal."""
    want_net(net)
    want_goal(net, goal)
    return net[0], tuple(sorted(blanks_of(net))), bars_of(net, goal)


def fill(net, goal):
    """("filled", tables) with which the outs are those of the goal, or ("barred", refutation) of the net's saying."""
    saying = net_saying(net, goal)
    kind, told = settle(saying)
    if kind == "refutation":
        return "barred", told
    by_name = {own[0]: table for own, table in zip(saying[1], told)}
    return "filled", tuple([by_name[name] for name, _ in blanks_of(net)])


def fills_many(net, goal):
    """The number of tables with which the outs of a net are those of its goal."""
    return many(net_saying(net, goal))
