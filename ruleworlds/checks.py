"""The checks of arguments, and the small questions about names, that several files share."""

from ruleworlds.errors import InvalidKind, InvalidPair, InvalidWorld, NotAProgram
from ruleworlds.programs import Program, is_world


def is_pair(thing):
    """Whether thing is a pair (here, there) of worlds."""
    if not isinstance(thing, tuple) or len(thing) != 2:
        return False
    here, there = thing
    return is_world(here) and is_world(there) and has_all(there, here)


def has_all(names, wanted):
    """Whether each wanted name is one of the names."""
    return all([name in names for name in wanted])


def meet(one, other):
    """Whether one of the names is among the others."""
    return any([name in other for name in one])


def without(names, left_out):
    """The names, in their order, that are not left out."""
    return tuple([name for name in names if name not in left_out])


def check_program(thing):
    """Refuse what is not a program."""
    if not isinstance(thing, Program):
        raise NotAProgram(thing)


def check_world(thing):
    """Refuse what is not a world."""
    if not is_world(thing):
        raise InvalidWorld(thing)


def check_pair(thing):
    """Refuse what is not a pair."""
    if not is_pair(thing):
        raise InvalidPair(thing)


def check_kind(thing, kinds):
    """Refuse what is not one of these words."""
    if thing not in kinds:
        raise InvalidKind(thing)
