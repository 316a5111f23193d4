"""Desks: programs kept as sheets, which can be put, dropped, switched on and off, and taken back."""

from ruleworlds.alike import alike
from ruleworlds.checks import check_program
from ruleworlds.errors import InvalidDeed, InvalidNames, NoSuchSheet, NothingToUndo
from ruleworlds.programs import Program, is_name

# What changed if the programs before and after a step are alike when this is added, the narrowest first.
CHANGES = (("rules", "nothing"), ("facts", "facts"), ("nothing", "answers"))


class Desk:
    """Sheets with programs, each on or off, and the steps that led to them."""

    def __init__(self):
        # Each step makes a new dict and leaves the earlier ones as they are: copies may share them.
        self._sheets = {}
        self._past = []

    def put(self, sheet, program):
        """Keep the program as this sheet."""
        if not is_name(sheet):
            raise InvalidNames(sheet)
        check_program(program)
        self.do(("put", sheet, program))

    def drop(self, sheet):
        """Remove the sheet."""
        self._check_sheet(sheet)
        self.do(("drop", sheet))

    def switch(self, sheet):
        """Make the sheet off if it is on, and on if it is off."""
        self._check_sheet(sheet)
        self.do(("switch", sheet))

    def do(self, *deeds):
        """Do all these deeds in turn, as one step."""
        sheets = self._sheets
        for place, deed in enumerate(deeds):
            sheets = _after(sheets, deed)
            if sheets is None:
                raise InvalidDeed(place)
        self._past.append(self._sheets)
        self._sheets = sheets

    def undo(self):
        """Take back the last step that is not yet taken back."""
        if not self._past:
            raise NothingToUndo()
        self._sheets = self._past.pop()

    @property
    def sheets(self):
        """The names of the sheets, ascending."""
        return tuple(sorted(self._sheets))

    @property
    def lit(self):
        """The names of the sheets that are on, ascending."""
        return tuple(sorted([sheet for sheet, (_, is_on) in self._sheets.items() if is_on]))

    @property
    def whole(self):
        """The program of the desk."""
        return _whole(self._sheets)

    def change(self):
        """What the last step that is not taken back changed: "nothing", "facts", "answers" or "all"."""
        if not self._past:
            raise NothingToUndo()
        before, now = _whole(self._past[-1]), _whole(self._sheets)
        for added, word in CHANGES:
            if alike(before, now, added) is None:
                return word
        return "all"

    def copy(self):
        """A desk with the same sheets and the same steps, which goes on apart from this one."""
        twin = Desk()
        twin._sheets = self._sheets
        twin._past = list(self._past)
        return twin

    def _check_sheet(self, sheet):
        """Refuse what is not the name of a sheet."""
        if sheet not in self:
            raise NoSuchSheet(sheet)

    def __contains__(self, thing):
        return is_name(thing) and thing in self._sheets

    def __len__(self):
        return len(self._sheets)

    def __getitem__(self, sheet):
        if sheet not in self:
            raise NoSuchSheet(sheet)
        return self._sheets[sheet][0]

    def __iter__(self):
        raise TypeError("a desk is not walked over: walk over its sheets")

    def __eq__(self, other):
        return isinstance(other, Desk) and self._sheets == other._sheets


def _whole(sheets):
    """The program with the rules of all sheets that are on."""
    rows = [row for program, is_on in sheets.values() if is_on for row in program.rules]
    return Program(*rows)


def _after(sheets, deed):
    """The sheets as they are after the deed, or None if it is no deed, or is refused."""
    if not isinstance(deed, tuple) or len(deed) not in (2, 3):
        return None
    word, sheet, *more = deed
    if not is_name(sheet):
        return None
    if word == "put" and more:
        return _after_put(sheets, sheet, more[0])
    if sheet not in sheets or more:
        return None
    if word == "drop":
        return {name: kept for name, kept in sheets.items() if name != sheet}
    if word == "switch":
        program, is_on = sheets[sheet]
        return {**sheets, sheet: (program, not is_on)}
    return None


def _after_put(sheets, sheet, program):
    """The sheets with this program as this sheet, or None if it is no program."""
    if not isinstance(program, Program):
        return None
    _, is_on = sheets.get(sheet, (program, True))
    return {**sheets, sheet: (program, is_on)}
