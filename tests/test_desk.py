"""Desks (points 1, 2, 8, 18, and the section ruleworlds/desk.py)."""

import copy
import random

from ruleworlds import desk as module
from ruleworlds.alike import alike
from ruleworlds.bases import base
from ruleworlds.desk import Desk
from ruleworlds.errors import InvalidDeed, InvalidNames, NoSuchSheet, NotAProgram, NothingToUndo
from ruleworlds.layers import all_answers
from ruleworlds.makes import program_of
from ruleworlds.programs import Program, choice, rule
from tests.helpers import (EMPTY_RULE, FACT, Case, all_rules, anything, odd_for, same, short_names, some_programs,
                           subsets, wrong_programs)

A, B = Program(FACT), Program.read("a :- b.")
NAMES = ("one", "two", "three", "four")


class SlowDesk:
    """A desk by the words of the document: all steps are kept, and the sheets are worked out from them anew."""

    def __init__(self, steps=()):
        self.steps = list(steps)

    def after(self, many):
        """The sheets after so many steps: a dict from names to lists [program, whether it is on]."""
        sheets = {}
        for step in self.steps[:many]:
            for deed in step:
                if deed[0] == "put" and deed[1] in sheets:
                    sheets[deed[1]][0] = deed[2]
                elif deed[0] == "put":
                    sheets[deed[1]] = [deed[2], True]
                elif deed[0] == "drop":
                    del sheets[deed[1]]
                else:
                    sheets[deed[1]][1] = not sheets[deed[1]][1]
        return sheets

    def now(self):
        return self.after(len(self.steps))

    def refused(self, deeds):
        """The place of the first deed that is refused, or None."""
        twin = SlowDesk(self.steps + [[]])
        for place, deed in enumerate(deeds):
            if deed[0] != "put" and deed[1] not in twin.now():
                return place
            twin.steps[-1] = twin.steps[-1] + [deed]
        return None

    def whole(self, many):
        rows = {row for program, is_on in self.after(many).values() if is_on for row in program.rules}
        return Program(*rows)

    def change(self):
        one, other = self.whole(len(self.steps) - 1), self.whole(len(self.steps))
        for added, word in (("rules", "nothing"), ("facts", "facts"), ("nothing", "answers")):
            if alike(one, other, added) is None:
                return word
        return "all"


def drawn_deed(draw, programs):
    word, sheet = draw.choice(["put", "put", "drop", "switch", "switch"]), draw.choice(NAMES)
    return ("put", sheet, draw.choice(programs)) if word == "put" else (word, sheet)


def wrong_names():
    return odd_for("", "a.", "Abc", "abcdefghi", "a b", (), [], ("a",), ["a"], FACT, EMPTY_RULE, Program(), Program(FACT))


def wrong_deeds():
    """Values that are no deed, or are refused by a desk with no other sheets than one and two."""
    put, drop, switch = ("put", "one", A), ("drop", "one"), ("switch", "one")
    return odd_for(
        "", "put", "drop", (), [], ("put",), ("drop",), ("switch",), "one", list(put), list(drop), list(switch), (put,),
        [put], (drop, switch), ("put", "one"), ("put", A), ("put", A, "one"), ("put", "one", A, A), ("put", "one", None),
        ("put", "one", "a."), ("put", "one", FACT), ("put", "not", A), ("put", "", A), ("put", "One", A), ("put", None, A),
        ("put", ["one"], A), ("put", ("one",), A), ("put", A, A), ("put", "abcdefghi", A), ("Put", "one", A),
        ("put ", "one", A), (b"put", "one", A), ("drop", "three"), ("drop", "not"), ("drop", None), ("drop", ["one"]),
        ("drop", {"one": A}), ("drop", "one", A), ("drop", "one", None), ("drop", "one", "two"), ("drop", ("one",)),
        ("drop", A), ("drop", ""), ("switch", "three"), ("switch", "one", True), ("switch", None), ("switch", []),
        ("switch", 0), ("switch", "one", "two"), ("undo",), ("undo", "one"), ("do", put), ("copy", "one"), (None, "one"),
        (A, "one"), (A, "one", A), (["put"], "one", A), ({"put": 1}, "one", A), (("put",), "one", A), (True, "one"),
        {"put": "one"}, ("put", "one", [A]), ("put", "one", {"a": A}), ("put", "one", (A,)), put + drop,
    )


class DeskTest(Case):

    def shows(self, desk, slow, note=None):
        """The desk shows what the steps say, in all its ways."""
        sheets = slow.now()
        self.same(desk.sheets, tuple(sorted(sheets)), note)
        self.same(desk.lit, tuple(sorted(name for name in sheets if sheets[name][1])), note)
        self.same(desk.whole, slow.whole(len(slow.steps)), note)
        self.same(len(desk), len(sheets), note)
        for name in NAMES + ("five", "not", ""):
            self.assertIs(name in desk, name in sheets)
            if name in sheets:
                self.same(desk[name], sheets[name][0], note)
            else:
                self.assertRaises(NoSuchSheet, lambda: desk[name])

    def test_drawn_steps(self):
        draw = random.Random(51)
        programs = [Program(*rows) for rows in some_programs("ab", 2, 6, draw)] + [
            Program(), A, B, Program.read("a | b."), Program.read("a :- not b.\nb :- not a.")]
        seen = {"nothing": 0, "facts": 0, "answers": 0, "all": 0, "refused": 0, "undone": 0, "back": 0}
        for _ in range(120):
            desk, slow, copies = Desk(), SlowDesk(), []
            for _ in range(25):
                deeds = [drawn_deed(draw, programs) for _ in range(draw.randrange(5))]
                kind = draw.randrange(5)
                if kind == 0:
                    if slow.steps:
                        self.assertIsNone(desk.undo())
                        slow.steps.pop()
                        seen["undone"] += 1
                    else:
                        self.assertRaises(NothingToUndo, desk.undo)
                        seen["back"] += 1
                elif kind == 1 and deeds:
                    word, *more = deeds[0]
                    call = {"put": desk.put, "drop": desk.drop, "switch": desk.switch}[word]
                    if slow.refused(deeds[:1]) is None:
                        self.assertIsNone(call(*more))
                        slow.steps.append(deeds[:1])
                    else:
                        self.error(NoSuchSheet, "sheet", more[0], call, *more)
                        seen["refused"] += 1
                elif kind == 2:
                    copies.append((desk.copy(), SlowDesk(slow.steps)))
                else:
                    place = slow.refused(deeds)
                    if place is None:
                        self.assertIsNone(desk.do(*deeds))
                        slow.steps.append(deeds)
                    else:
                        self.error(InvalidDeed, "place", place, desk.do, *deeds)
                        seen["refused"] += 1
                self.shows(desk, slow)
                if slow.steps:
                    seen[slow.change()] += 1
                    self.same(desk.change(), slow.change())
                else:
                    self.assertRaises(NothingToUndo, desk.change)
            for twin, early in copies:
                self.shows(twin, early)
                self.assertIs(twin == desk, early.now() == slow.now())
                self.assertIs(twin != desk, early.now() != slow.now())
                while early.steps:
                    twin.undo()
                    early.steps.pop()
                    self.shows(twin, early)
                self.assertRaises(NothingToUndo, twin.undo)
            self.shows(desk, slow)
        self.assertGreater(min(seen.values()), 3, seen)

    def test_a_new_desk(self):
        desk = Desk()
        self.same([desk.sheets, desk.lit, desk.whole, len(desk)], [(), (), Program(), 0])
        self.assertEqual(desk, Desk())
        self.assertRaises(NothingToUndo, desk.undo)
        self.assertRaises(NothingToUndo, desk.change)

    def test_put_in_the_place_of_another(self):
        desk = Desk()
        desk.put("one", A)
        desk.put("two", B)
        desk.switch("one")
        desk.put("one", Program(choice("c")))
        self.same([desk.sheets, desk.lit, desk["one"]], [("one", "two"), ("two",), Program(choice("c"))])
        self.same(desk.whole, B)
        desk.switch("one")
        self.same(desk.whole, B + Program(choice("c")))

    def test_a_sheet_that_was_dropped_is_new(self):
        desk = Desk()
        desk.put("one", A)
        desk.switch("one")
        desk.drop("one")
        self.same([desk.sheets, len(desk), "one" in desk], [(), 0, False])
        self.error(NoSuchSheet, "sheet", "one", desk.drop, "one")
        desk.put("one", B)
        self.same([desk.sheets, desk.lit, desk.whole], [("one",), ("one",), B])
        desk.switch("one")
        desk.do(("drop", "one"), ("put", "one", A))
        self.same(desk.lit, ("one",))

    def test_the_sheets_are_ascending(self):
        desk = Desk()
        for name in ("b", "aa", "c", "a", "ab"):
            desk.put(name, Program.facts((name,)))
        self.same(desk.sheets, ("a", "aa", "ab", "b", "c"))
        for name in ("c", "aa", "b"):
            desk.switch(name)
        self.same(desk.lit, ("a", "ab"))
        desk.switch("b")
        self.same([desk.lit, desk.whole], [("a", "ab", "b"), Program.facts(("a", "ab", "b"))])

    def test_undo_goes_back_to_the_beginning(self):
        desk = Desk()
        states = []
        for deed in (("put", "one", A), ("put", "two", B), ("switch", "two"), ("put", "two", A), ("drop", "one"),
                     ("put", "one", B), ("switch", "two")):
            states.append((desk.copy(), desk.sheets, desk.lit, desk.whole))
            desk.do(deed)
        for twin, sheets, lit, whole in states[::-1]:
            self.assertIsNone(desk.undo())
            self.same([desk.sheets, desk.lit, desk.whole], [sheets, lit, whole])
            self.assertEqual(desk, twin)
        for _ in range(2):
            self.assertRaises(NothingToUndo, desk.undo)
            self.same([desk.sheets, desk.whole], [(), Program()])

    def test_undo_and_then_another_step(self):
        desk = Desk()
        desk.put("one", A)
        desk.put("two", B)
        desk.undo()
        desk.put("three", B)
        self.same(desk.sheets, ("one", "three"))
        desk.undo()
        self.same(desk.sheets, ("one",))
        desk.undo()
        self.assertRaises(NothingToUndo, desk.undo)

    def test_a_step_that_changes_nothing_is_a_step(self):
        desk = Desk()
        desk.put("one", A)
        desk.put("one", A)
        desk.do()
        desk.do(("switch", "one"), ("switch", "one"))
        desk.do(("put", "two", B), ("drop", "two"))
        self.same([desk.change(), desk.whole], ["nothing", A])
        for _ in range(4):
            desk.undo()
            self.same(desk.sheets, ("one",))
        desk.undo()
        self.same(desk.sheets, ())
        desk.do()
        self.same(desk.change(), "nothing")
        desk.undo()
        self.assertRaises(NothingToUndo, desk.undo)

    def test_do_is_one_step(self):
        desk = Desk()
        self.assertIsNone(desk.do(("put", "one", A), ("put", "two", B), ("switch", "one"), ("put", "one", B)))
        self.same([desk.sheets, desk.lit, desk["one"]], [("one", "two"), ("two",), B])
        desk.undo()
        self.same(desk.sheets, ())
        self.assertRaises(NothingToUndo, desk.undo)

    def test_copies_go_on_apart(self):
        desk = Desk()
        desk.put("one", A)
        desk.switch("one")
        twin = desk.copy()
        third = twin.copy()
        self.assertIs(type(twin), Desk)
        self.assertEqual([desk == twin, twin == third, desk is twin], [True, True, False])
        twin.switch("one")
        third.drop("one")
        desk.put("two", B)
        self.same([desk.lit, twin.lit, third.lit], [("two",), ("one",), ()])
        self.same([desk.sheets, twin.sheets, third.sheets], [("one", "two"), ("one",), ()])
        third.undo()
        third.undo()
        self.same(third.lit, ("one",))
        third.undo()
        self.assertRaises(NothingToUndo, third.undo)
        self.same([desk.sheets, twin.lit], [("one", "two"), ("one",)])
        fourth = third.copy()
        fourth.put("x", A)
        self.same([fourth.sheets, third.sheets, fourth.change()], [("x",), (), "all"])

    def test_equality(self):
        one, other = Desk(), Desk()
        one.put("one", A)
        one.put("two", B)
        other.put("two", B)
        self.assertNotEqual(one, other)
        other.put("one", Program(rule(["a"])))
        self.assertEqual(one, other)
        other.switch("one")
        self.assertNotEqual(one, other)
        other.put("one", B)
        other.switch("one")
        self.assertNotEqual(one, other)
        other.put("one", A)
        self.assertEqual(one, other)
        for thing in anything() + [one.whole, one.sheets, {"one": A, "two": B}]:
            self.assertIs(one == thing, False)
            self.assertIs(one != thing, True)
            self.assertIs(thing == one, False)
            self.assertIs(Desk() == thing, False)
        # The steps that led there do not count, nor the program of the desk.
        off, gone = Desk(), Desk()
        off.do(("put", "one", A), ("switch", "one"))
        self.assertEqual(off.whole, gone.whole)
        self.assertNotEqual(off, gone)

    def test_anything_in_a_desk(self):
        desk = Desk()
        desk.put("a", A)
        for thing in anything():
            self.assertIs(thing in desk, same(thing, "a"))
            if not same(thing, "a"):
                self.error(NoSuchSheet, "sheet", thing, lambda x: desk[x], thing)
        self.same(desk["a"], A)

    def test_a_desk_is_not_walked_over(self):
        desk = Desk()
        desk.put("a", A)
        self.assertRaises(TypeError, list, desk)

    def test_programs_stay_as_they_are(self):
        desk = Desk()
        program = Program.read("a :- b.\nc.")
        desk.put("one", program)
        desk.put("two", A)
        desk.whole
        desk.change()
        self.same([program.written(), desk["one"]], ["a :- b.\nc.", program])

    def test_by_name(self):
        desk = Desk()
        self.assertIsNone(desk.put(program=A, sheet="one"))
        self.assertIsNone(desk.switch(sheet="one"))
        self.same(desk.lit, ())
        self.assertIsNone(desk.drop(sheet="one"))
        self.same(desk.sheets, ())

    def test_what_is_defined_where(self):
        self.assertEqual(Desk.__module__, "ruleworlds.desk")
        for name in ("put", "drop", "switch", "do", "undo", "change", "copy", "__contains__", "__len__", "__getitem__",
                     "__eq__", "sheets", "lit", "whole"):
            self.assertIn(name, vars(Desk))
        self.assertIs(module.Desk, Desk)


class ChangeTest(Case):

    def changed(self, before, now):
        desk = Desk()
        desk.put("one", Program.read(before))
        desk.put("one", Program.read(now))
        return desk.change()

    def test_known_ones(self):
        turns = "a :- not b.\nb :- not a."
        known = [
            ("a.", "a.", "nothing"), ("a.", "a.\na :- b.", "nothing"), ("", "a :- a.", "nothing"), ("", "a.", "all"),
            ("a | b.", turns, "facts"), ("a | b.", "a | not a.\nb | not b.", "all"), ("", "a :- b.", "answers"),
            ("", "a :- b.\nb :- a.", "answers"), (":-.", "a.\n:- a.", "nothing"), ("a :- not a.", ":-.", "answers"),
            ("a | not a.", "a | not a.\nb :- b.", "nothing"), (":- a.", "", "answers"),
        ]
        for before, now, wanted in known:
            self.same(self.changed(before, now), wanted, (before, now))
            self.same(self.changed(now, before), wanted, (now, before))

    def test_only_sheets_that_are_on_count(self):
        desk = Desk()
        desk.put("one", A)
        desk.switch("one")
        self.same(desk.change(), "all")
        desk.put("one", B)
        self.same(desk.change(), "nothing")
        desk.drop("one")
        self.same(desk.change(), "nothing")
        desk.undo()
        self.same(desk.change(), "nothing")
        desk.undo()
        self.same(desk.change(), "all")

    def test_after_undo_it_is_the_step_before(self):
        desk = Desk()
        desk.put("one", A)
        desk.put("two", B)
        desk.put("three", Program.read("c."))
        self.same(desk.change(), "all")
        desk.undo()
        self.same([desk.change(), desk.change()], ["nothing", "nothing"])
        desk.undo()
        self.same(desk.change(), "all")
        desk.undo()
        self.assertRaises(NothingToUndo, desk.change)

    def test_a_call_with_an_error_is_no_step(self):
        desk = Desk()
        desk.put("one", A)
        self.error(InvalidDeed, "place", 2, desk.do, ("put", "one", B), ("drop", "one"), ("drop", "one"))
        self.error(NoSuchSheet, "sheet", "two", desk.drop, "two")
        self.error(NotAProgram, "thing", None, desk.put, "one", None)
        self.same([desk.change(), desk.whole], ["all", A])
        desk.undo()
        self.assertRaises(NothingToUndo, desk.undo)

    def test_all_rules_of_one_name(self):
        rules = all_rules("a")
        for row in rules:
            for other in rules:
                desk = Desk()
                desk.put("one", Program(row))
                desk.put("two", Program(other))
                before, now = Program(row), Program(row, other)
                words = [word for added, word in (("rules", "nothing"), ("facts", "facts"), ("nothing", "answers"))
                         if alike(before, now, added) is None] + ["all"]
                self.same(desk.change(), words[0])


class WrongTest(Case):

    def filled(self):
        desk = Desk()
        desk.do(("put", "one", A), ("put", "two", B))
        return desk

    def unchanged(self, desk):
        """The desk is as it was made, with its one step."""
        self.assertEqual(desk, self.filled())
        twin = desk.copy()
        twin.undo()
        self.assertRaises(NothingToUndo, twin.undo)

    def test_put(self):
        desk = self.filled()
        for thing in wrong_names():
            for program in (A, None, "a.", FACT):
                self.error(InvalidNames, "thing", thing, desk.put, thing, program)
            self.error(InvalidNames, "thing", thing, desk.put, program=A, sheet=thing)
        for thing in wrong_programs():
            self.error(NotAProgram, "thing", thing, desk.put, "one", thing)
            self.error(NotAProgram, "thing", thing, desk.put, "new", thing)
            self.error(NotAProgram, "thing", thing, desk.put, program=thing, sheet="one")
        self.unchanged(desk)

    def test_drop_and_switch_and_item(self):
        desk = self.filled()
        for thing in anything() + ["three", "One", "one ", ["one"], ("one",), {"one": A}]:
            for call in (desk.drop, desk.switch, lambda sheet: desk[sheet]):
                self.error(NoSuchSheet, "sheet", thing, call, thing)
                self.error(NoSuchSheet, "sheet", thing, call, sheet=thing)
        self.unchanged(desk)

    def test_do(self):
        desk = self.filled()
        right = [("put", "one", B), ("switch", "two"), ("put", "new", A), ("drop", "new")]
        for thing in wrong_deeds():
            self.error(InvalidDeed, "place", 0, desk.do, thing)
            self.error(InvalidDeed, "place", 0, desk.do, thing, *right)
            self.error(InvalidDeed, "place", 0, desk.do, thing, thing)
            self.error(InvalidDeed, "place", 2, desk.do, *right[:2], thing, *right[2:])
            self.error(InvalidDeed, "place", 4, desk.do, *right, thing, None)
        self.unchanged(desk)

    def test_deeds_that_are_refused_at_that_moment(self):
        desk = self.filled()
        for deeds, place in (
            ([("drop", "one"), ("switch", "one")], 1), ([("drop", "one"), ("drop", "one")], 1),
            ([("switch", "new"), ("put", "new", A)], 0), ([("put", "new", A), ("switch", "new"), ("drop", "no")], 2),
            ([("drop", "one"), ("put", "one", A), ("switch", "one"), ("drop", "one"), ("put", "not", A)], 4),
            ([("drop", "one"), ("drop", "two"), ("drop", "one"), ("drop", "two")], 2),
        ):
            self.error(InvalidDeed, "place", place, desk.do, *deeds)
        self.unchanged(desk)
        desk.do(("put", "new", A), ("switch", "new"), ("drop", "one"))
        self.same([desk.sheets, desk.lit], [("new", "two"), ("two",)])

    def test_errors_without_fields(self):
        desk = Desk()
        for call in (desk.undo, desk.change):
            with self.assertRaises(NothingToUndo) as caught:
                call()
            self.assertIs(type(caught.exception), NothingToUndo)

    def test_deeds_stay_as_they_are(self):
        desk = Desk()
        deeds = (("put", "one", A), ("switch", "one"))
        before = copy.deepcopy(deeds)
        desk.do(*deeds)
        desk.put("one", B)
        self.same(deeds, before)


class LimitTest(Case):

    SHEETS = short_names(20)

    def filled(self, names, draw):
        desk = Desk()
        for sheet in self.SHEETS:
            rows = set()
            while len(rows) < 60:
                rows.add(rule(draw.sample(names, 2), draw.sample(names, 2), draw.sample(names, 1), draw.sample(names, 1)))
            desk.put(sheet, Program(*rows))
        return desk

    def test_twenty_sheets_of_sixty_rules(self):
        desk = self.filled(tuple("abcdef"), random.Random(52))
        self.assertGreater(len(self.timed(lambda: desk.whole)), 900)
        self.assertIn(self.timed(desk.change), ("nothing", "facts", "answers", "all"))
        self.timed(desk.switch, self.SHEETS[3])
        self.timed(desk.change)
        self.timed(desk.do, *[("switch", sheet) for sheet in self.SHEETS])
        self.same(desk.lit, self.SHEETS[3:4])
        now = desk.whole
        self.assertEqual(len(now), 60)
        twin = desk.copy()
        twin.undo()
        self.assertEqual(self.timed(desk.change) == "nothing", alike(twin.whole, now) is None)
        self.same(alike(self.timed(base, twin.whole), twin.whole), None)

    def test_sheets_of_hundreds_of_rules(self):
        names = tuple("abcdef")
        desk = Desk()
        desk.put("one", program_of([(w, w) for w in subsets(names)], names))
        desk.put("two", program_of([(w, w) for w in subsets(names)], names) - Program(rule(names)))
        self.assertGreater(len(desk.whole), 600)
        self.same(self.timed(desk.change), "nothing")
        desk.drop("one")
        desk.undo()
        desk.put("two", program_of([((), ()), (names, names)], names))
        self.same(self.timed(desk.change), "all")

    def test_sixty_deeds_and_many_steps(self):
        desk = Desk()
        deeds = [("put", sheet, Program(choice("a"))) for sheet in self.SHEETS]
        deeds += [("switch", sheet) for sheet in self.SHEETS] + [("put", sheet, A) for sheet in self.SHEETS]
        self.timed(desk.do, *deeds)
        self.same([desk.lit, len(desk), desk.whole], [(), 20, Program()])
        for _ in range(300):
            desk.switch(self.SHEETS[0])
        twin = self.timed(desk.copy)
        for _ in range(300):
            desk.undo()
        self.same([desk.lit, len(desk)], [(), 20])
        desk.undo()
        self.same(len(desk), 0)
        self.assertRaises(NothingToUndo, desk.undo)
        twin.undo()
        self.same(twin.lit, self.SHEETS[:1])

    def test_sheets_of_ten_names_and_of_forty(self):
        names = short_names(40)
        desk = Desk()
        for k, sheet in enumerate(self.SHEETS):
            own = names[2 * k:2 * k + 2]
            desk.put(sheet, Program(rule([own[0]], [names[0]]), rule([own[1]], bars=[own[0]])) + Program.facts(names[:1]))
        found = self.timed(list, all_answers(desk.whole))
        self.same(found, [names[::2]])
        desk.switch(self.SHEETS[0])
        self.same(self.timed(list, all_answers(desk.whole)), [names[::2]])
