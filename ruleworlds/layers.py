"""Programs taken apart by their names: lower parts and rests, layers, and the answers layer by layer."""

from ruleworlds.checks import check_program, check_world, has_all, meet, without
from ruleworlds.errors import InvalidWorld, NoAnswer, NotASplit
from ruleworlds.programs import Program, is_world
from ruleworlds.worlds import Table, pairs


def splits(program, names):
    """Whether the set of names splits the program."""
    check_program(program)
    check_world(names)
    for row in program.rules:
        if meet(row[0], names) and not has_all(names, _names_in(row)):
            return False
    return True


def lower(program, names):
    """The lower part of the program, by a set of names that splits it."""
    _check_split(program, names)
    rows = [row for row in program.rules if has_all(names, _names_in(row))]
    return Program(*rows)


def rest(program, names, world):
    """The rest of the program after a world of names that split it."""
    _check_split(program, names)
    if not is_world(world) or not has_all(names, world):
        raise InvalidWorld(world)
    upper = [row for row in program.rules if not has_all(names, _names_in(row))]
    rows = [_row_without(row, names) for row in upper if _is_asked_for(_asked(row, names), world)]
    return Program(*rows)


def layers(program):
    """The list of the layers of the program, in their order."""
    check_program(program)
    reached = _reached(program)
    found = []
    left = program.names
    while left:
        layer = _next_layer(reached, left)
        found.append(layer)
        left = without(left, layer)
    return found


def all_answers(program):
    """Yield the answers of the program, ascending, worked out layer by layer."""
    check_program(program)
    # The rule without names is in each lower part: a first layer without names is there for it.
    parts = [(), *layers(program)]
    rows = _rows_of_layers(program, parts)
    found = [()]
    earlier = ()
    for place, layer in enumerate(parts):
        found = _with_layer(found, earlier, layer, rows[place])
        earlier = earlier + layer
    for world in sorted([tuple(sorted(names)) for names in found]):
        yield world


def sure(program):
    """The set of the names that are in all answers."""
    found = _some_answers(program)
    return tuple([name for name in program.names if all([name in world for world in found])])


def possible(program):
    """The set of the names that are in at least one answer."""
    found = _some_answers(program)
    return tuple([name for name in program.names if any([name in world for world in found])])


def _check_split(program, names):
    """Refuse wrong arguments, and names that do not split the program."""
    if not splits(program, names):
        raise NotASplit(names)


def _some_answers(program):
    """The list of the answers, which is not empty."""
    found = list(all_answers(program))
    if not found:
        raise NoAnswer()
    return found


def _names_in(row):
    """All names of the rule."""
    return [name for part in row for name in part]


def _row_without(row, names):
    """The rule without these names."""
    return tuple([without(part, names) for part in row])


def _asked(row, names):
    """What the rule asks of a world of these names: those that have to be in it, and those that must not."""
    _, denied, needs, bars = row
    wanted = [name for name in denied + needs if name in names]
    return tuple(wanted), tuple([name for name in bars if name in names])


def _is_asked_for(asked, world):
    """Whether the world is as a rule asks, so that the rule is not left out after it."""
    wanted, unwanted = asked
    return has_all(world, wanted) and not meet(unwanted, world)


def _reached(program):
    """For each name a dict with the names that it leads to by using."""
    found = {name: {} for name in program.names}
    for row in program.rules:
        for head in row[0]:
            for name in _names_in(row):
                found[head][name] = True
    for middle in program.names:
        for name in program.names:
            if middle in found[name]:
                found[name] = {**found[name], **found[middle]}
    return found


def _next_layer(reached, left):
    """The layer, of the names that are left, that comes next."""
    ready = []
    for name in left:
        mutual = [other for other in reached[name] if name in reached[other]]
        layer = tuple([other for other in left if other == name or other in mutual])
        # A name that is reached and not left is in an earlier layer.
        if all([other in layer or other not in left for other in reached[name]]):
            ready.append(layer)
    return ready[0]


def _rows_of_layers(program, parts):
    """For each of these layers the rules that are in the lower part with it, but not without it."""
    places = {name: place for place, layer in enumerate(parts) for name in layer}
    rows = [[] for _ in parts]
    for row in program.rules:
        last = max([0] + [places[name] for name in _names_in(row)])
        rows[last].append(row)
    return rows


def _with_layer(found, earlier, layer, rows):
    """The unions of an answer found so far and one of the rest of these rules after it."""
    free = Program()
    table = Table(list(pairs(free, layer)))
    # Rules that ask the same of the earlier names are in the same rests: what they rule out is joined once.
    ruled_out = {}
    for row in rows:
        asked = _asked(row, earlier)
        ruled_out[asked] = ruled_out.get(asked, 0) | table.against(_row_without(row, earlier))
    unions = []
    for world in found:
        gone = 0
        for asked, taken in ruled_out.items():
            if _is_asked_for(asked, world):
                gone = gone | taken
        unions.extend([world + more for more in table.alone(gone)])
    return unions
