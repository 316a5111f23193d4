"""Founded values of basic programs, and records that show them step by step."""

from ruleworlds.checks import check_program, has_all, meet
from ruleworlds.errors import NotBasic
from ruleworlds.programs import is_world


def values(program):
    """A dict from each name of the program to True, False, or None if it is open."""
    _check_basic(program)
    return _founded_values(program)


def record(program):
    """A complete record of the program."""
    _check_basic(program)
    return tuple(_steps_to_all(program))


def check_record(program, thing):
    """None if thing is a complete record of the program, otherwise its first problem."""
    _check_basic(program)
    if not isinstance(thing, tuple):
        return ("form",)
    shown = {}
    for place, step in enumerate(thing):
        if not _is_allowed(program, shown, step):
            return ("step", place)
        _show(shown, step)
    for name, worth in _founded_values(program).items():
        if worth is not None and name not in shown:
            return ("missing", name)
    return None


def _check_basic(program):
    """Refuse what is not a program, and a program that is not basic."""
    check_program(program)
    for row in program.rules:
        heads, denied, _, _ = row
        if len(heads) != 1 or denied:
            raise NotBasic(row)


def _founded_values(program):
    """The founded values, the names ascending."""
    shown = {name: None for name in program.names}
    for step in _steps_to_all(program):
        _show(shown, step)
    return shown


def _steps_to_all(program):
    """The steps that show all true and all false names.

    They go along with the founded values: K and U are worked out in turn, and what is new in K,
    or no longer in U, is shown.
    """
    steps = []
    risen, fallen = [], []
    while True:
        possible_names = _heads(_reasons(program, risen))
        falling = [name for name in program.names if name not in possible_names and name not in fallen]
        if falling:
            steps.append(("false", tuple(falling)))
            fallen = fallen + falling
        rising = [row for row in _reasons(program, possible_names) if not meet(row[0], risen)]
        if not rising:
            return steps
        steps.extend([("true", row) for row in rising])
        risen = risen + _heads(rising)


def _reasons(program, world):
    """One rule for each name that follows from the program and the world, its needs by rules before it."""
    rows = [row for row in program.rules if not meet(row[3], world)]
    found = []
    known = {}
    grows = True
    while grows:
        grows = False
        for row in rows:
            heads, _, needs, _ = row
            if not meet(heads, known) and has_all(known, needs):
                known[heads[0]] = True
                found.append(row)
                grows = True
    return found


def _heads(rows):
    """The heads of rules that have just one head each."""
    return [row[0][0] for row in rows]


def _show(shown, step):
    """Note what the step shows: True or False for each of its names."""
    word, what = step
    # The heads of a rule of a basic program are just the one name that it shows.
    names = what[0] if word == "true" else what
    for name in names:
        shown[name] = word == "true"


def _is_allowed(program, shown, step):
    """Whether step is a step of a record of the program behind those that have shown this."""
    if not isinstance(step, tuple) or len(step) != 2:
        return False
    word, what = step
    if word == "true":
        return what in program and _may_rise(shown, what)
    return word == "false" and is_world(what) and _may_fall(program, shown, what)


def _may_rise(shown, row):
    """Whether the rule may show its head to be true."""
    heads, _, needs, bars = row
    is_met = all([shown.get(name) is True for name in needs])
    is_free = all([shown.get(name) is False for name in bars])
    return not meet(heads, shown) and is_met and is_free


def _may_fall(program, shown, names):
    """Whether all these names may be shown to be false at once."""
    if not names or not has_all(program.names, names) or meet(names, shown):
        return False
    return all([_is_stopped(shown, names, row) for row in program.rules if meet(row[0], names)])


def _is_stopped(shown, names, row):
    """Whether the rule has a need that is false, or falls with these names, or a bar that is true."""
    _, _, needs, bars = row
    is_lacking = any([name in names or shown.get(name) is False for name in needs])
    return is_lacking or any([shown.get(name) is True for name in bars])
