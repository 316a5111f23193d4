"""Spare rules, bases, conflicts and cures (points 1, 2, 5, 8, 16, 17, and the section ruleworlds/bases.py)."""

import itertools
import random

from ruleworlds import bases as module
from ruleworlds.alike import alike
from ruleworlds.bases import base, bases, conflicts, cures, spare
from ruleworlds.desk import Desk
from ruleworlds.errors import NotAProgram
from ruleworlds.layers import all_answers, lower
from ruleworlds.makes import program_of
from ruleworlds.programs import Program, choice, rule
from ruleworlds.worlds import answers, pairs, worlds
from tests.helpers import (EMPTY_RULE, FACT, Case, all_pairs, all_rules, short_names, slow_names, slow_pairs,
                           slow_worlds, some_programs, subsets, wrong_programs)

ALL = (spare, bases, base, conflicts, cures)


def parts_of(rows):
    """All parts of the rules, as lists: those with fewer rules first, then ascending by their rules."""
    rows = sorted(set(rows))
    found = [list(part) for many in range(len(rows) + 1) for part in itertools.combinations(rows, many)]
    return sorted(found, key=lambda part: (len(part), part))


def without(rows, left_out):
    return [row for row in rows if row not in left_out]


def slow_spare(rows, names):
    return [row for row in sorted(set(rows)) if slow_pairs(without(rows, [row]), names) == slow_pairs(rows, names)]


def slow_bases(rows, names):
    wanted = slow_pairs(rows, names)
    return [part for part in parts_of(rows) if slow_pairs(part, names) == wanted and not slow_spare(part, names)]


def slow_base(rows, names):
    left = sorted(set(rows))
    for row in sorted(set(rows)):
        if row in slow_spare(left, names):
            left = without(left, [row])
    return left


def slow_least(rows, is_so):
    """The parts for which this is so, but no longer when any one rule is left out."""
    return [part for part in parts_of(rows)
            if is_so(part) and not any(is_so(without(part, [row])) for row in part)]


def slow_conflicts(rows):
    names = slow_names(rows)
    return slow_least(rows, lambda part: not slow_worlds(part, names))


def slow_cures(rows):
    names = slow_names(rows)
    return slow_least(rows, lambda part: slow_worlds(without(rows, part), names))


def programs_of(parts):
    return [Program(*part) for part in parts]


def tight_programs(names, most, many, draw):
    """Programs of short rules, of which several say the same or do not go together."""
    short = [row for row in all_rules(names) if sum(map(len, row)) < 3]
    return [draw.sample(short, draw.randrange(most + 1)) for _ in range(many)]


class SpareTest(Case):

    def looked_at(self, rows):
        program = Program(*rows)
        names = slow_names(rows)
        self.same(spare(program), tuple(slow_spare(rows, names)), rows)
        self.same(base(program), Program(*slow_base(rows, names)), rows)
        found = list(bases(program))
        self.same(found, programs_of(slow_bases(rows, names)), rows)
        self.assertIn(base(program), found)
        for part in found:
            self.same(alike(part, program), None, rows)
            self.same(spare(part), ())
            self.same(part - program, Program())
        for row in program.rules:
            is_spare = alike(program, program - Program(row)) is None
            self.assertIs(row in spare(program), is_spare, (rows, row))
        return len(found)

    def test_all_rules_of_two_names(self):
        draw = random.Random(41)
        rules = all_rules("ab")
        for row in rules:
            self.looked_at([row])
            self.looked_at([row, draw.choice(rules)])

    def test_all_programs_of_one_name_and_up_to_three_rules(self):
        for many in range(4):
            for rows in itertools.combinations(all_rules("a"), many):
                self.looked_at(list(rows))

    def test_drawn_programs(self):
        draw = random.Random(42)
        seen = set()
        for names, most, many in (("ab", 5, 120), ("abc", 5, 25)):
            for rows in tight_programs(names, most, many, draw) + some_programs(names, most, many, draw):
                seen.add(self.looked_at(rows))
        self.assertGreaterEqual(seen, {1, 2, 3})

    def test_known_ones(self):
        known = {
            "": ("", [""]), ":-.": ("", [":-."]), "a.": ("", ["a."]), "a :- a.": ("a :- a.", [""]),
            "a.\na :- b.": ("a :- b.", ["a."]), "a.\n:-.": ("a.", [":-."]), ":- a.\n:- not a.": ("", [":- a.\n:- not a."]),
            "a :- a.\nb | c :- b.\nnot d :- not d.": ("a :- a.\nb | c :- b.\nnot d :- not d.", [""]),
            "a.\na | b.\na | b | c.": ("a | b.\na | b | c.", ["a."]),
            "a :- b.\nb :- c.\na :- c.": ("a :- c.", ["a :- b.\nb :- c."]),
            "a :- b.\nb :- c.\nc :- a.\na :- c.\nc :- b.\nb :- a.":
            ("a :- b.\na :- c.\nb :- a.\nb :- c.\nc :- a.\nc :- b.",
             ["a :- b.\nb :- c.\nc :- a.", "a :- c.\nb :- a.\nc :- b.",
              "a :- b.\na :- c.\nb :- a.\nc :- a.", "a :- b.\nb :- a.\nb :- c.\nc :- b.",
              "a :- c.\nb :- c.\nc :- a.\nc :- b."]),
            "not a.\n:- a.": (":- a.\nnot a.", [":- a.", "not a."]),
        }
        for text, (spare_ones, wanted) in known.items():
            program = Program.read(text)
            self.gives(tuple(sorted(Program.read(spare_ones).rules)), spare, program)
            self.same([part.written() for part in bases(program)],
                      [part.written() for part in sorted(map(Program.read, wanted), key=lambda p: (len(p), p.rules))])
            self.assertIn(base(program).written(), [Program.read(one).written() for one in wanted])

    def test_the_base_looks_at_the_rules_in_ascending_order(self):
        ring = Program.read("a :- b.\nb :- c.\nc :- a.\na :- c.\nc :- b.\nb :- a.")
        # First a :- b and a :- c are looked at: c leads to a by b as long as a :- b stays, but that goes first.
        self.gives(Program.read("a :- c.\nb :- c.\nc :- a.\nc :- b."), base, ring)
        self.gives(Program.read("not a."), base, Program.read("not a.\n:- a."))
        self.gives(Program(EMPTY_RULE), base, Program.read("a.\n:-."))
        self.gives(Program(), base, Program.read("a :- a.\nb :- b."))

    def test_a_base_is_no_base_of_the_answers_alone(self):
        # The answers are the same without the second rule, but not always.
        program = Program.read("a | b.\na :- not b.\nb :- not a.")
        self.same(list(bases(program)), [Program.read("a | b.")])
        program = Program.read("a.\nb :- c.")
        self.same(answers(program), answers(Program(FACT)))
        self.same(list(bases(program)), [program])
        self.gives((), spare, program)

    def test_each_program_is_new_and_each_call_the_same(self):
        program = Program.read("a :- b.\nb :- c.\na :- c.")
        one, other = iter(bases(program)), iter(bases(program))
        self.same(next(one), next(other))
        self.same([list(one), list(other)], [[], []])
        self.same(list(bases(program=program)), list(bases(program)))
        self.gives(base(program), base, program=program)
        self.gives(spare(program), spare, program=program)


class ConflictTest(Case):

    def looked_at(self, rows):
        program = Program(*rows)
        found, healing = conflicts(program), cures(program)
        self.same(found, programs_of(slow_conflicts(rows)), rows)
        self.same(healing, programs_of(slow_cures(rows)), rows)
        self.assertIs(type(found), list)
        for cure in healing:
            self.assertNotEqual(list(worlds(program - cure)), [])
            for conflict in found:
                self.assertTrue(set(cure.rules) & set(conflict.rules), (rows, cure, conflict))
        for conflict in found:
            self.same(list(worlds(conflict, program.names)), [])
            self.same(answers(conflict), [])
        if list(worlds(program)):
            self.same([found, healing], [[], [Program()]])
        else:
            self.assertTrue(found and healing and Program() not in healing, rows)
        return len(found), len(healing)

    def test_all_rules_of_two_names(self):
        draw = random.Random(43)
        rules = all_rules("ab")
        for row in rules:
            self.looked_at([row])
            self.looked_at([row] + draw.sample(rules, 3))

    def test_all_programs_of_one_name_and_up_to_three_rules(self):
        for many in range(4):
            for rows in itertools.combinations(all_rules("a"), many):
                self.looked_at(list(rows))

    def test_drawn_programs(self):
        draw = random.Random(44)
        seen = set()
        for names, most, many in (("ab", 7, 150), ("abc", 8, 40)):
            for rows in tight_programs(names, most, many, draw):
                seen.add(self.looked_at(rows))
        self.assertGreaterEqual(len({one for one, _ in seen}), 4)
        self.assertGreaterEqual(len({other for _, other in seen}), 4)

    def test_known_ones(self):
        known = {
            "": ([], [""]), "a :- not a.": ([], [""]), ":-.": ([":-."], [":-."]), "a | not a.": ([], [""]),
            "a.\n:- a.\nb.": ([":- a.\na."], [":- a.", "a."]), "a.\n:- a.\n:-.": ([":-.", ":- a.\na."],
                                                                                   [":-.\n:- a.", ":-.\na."]),
            "a.\n:- a.\nb.\n:- b.": ([":- a.\na.", ":- b.\nb."],
                                     [":- a.\n:- b.", ":- a.\nb.", ":- b.\na.", "a.\nb."]),
            "a | b.\n:- a.\n:- b.": ([":- a.\n:- b.\na | b."], [":- a.", ":- b.", "a | b."]),
            "a :- not a.\nnot a.": (["a :- not a.\nnot a."], ["a :- not a.", "not a."]),
            "a.\nnot a.\n:- a.": (["a.\nnot a.", "a.\n:- a."], ["a.", ":- a.\nnot a."]),
        }
        for text, (clashing, healing) in known.items():
            program = Program.read(text)
            for call, wanted in ((conflicts, clashing), (cures, healing)):
                wanted = sorted(map(Program.read, wanted), key=lambda part: (len(part), part.rules))
                self.gives(wanted, call, program)
                self.gives(wanted, call, program=program)

    def test_each_list_is_new(self):
        program = Program.read("a.\n:- a.")
        for call in (conflicts, cures):
            found = call(program)
            call(program).append(None)
            self.same(call(program), found)


class WrongTest(Case):

    def test_wrong_programs(self):
        for thing in wrong_programs():
            for call in (spare, base, conflicts, cures):
                self.error(NotAProgram, "thing", thing, call, thing)
                self.error(NotAProgram, "thing", thing, call, program=thing)
            self.error(NotAProgram, "thing", thing, lambda x: next(iter(bases(x))), thing)

    def test_where_the_functions_stand(self):
        for call in ALL:
            self.assertEqual(call.__module__, "ruleworlds.bases")
            self.assertIs(getattr(module, call.__name__), call)


class LimitTest(Case):

    NAMES = tuple("abcdef")

    def test_bases_of_ten_rules_of_six_names(self):
        names = self.NAMES
        ring = [rule([x], [names[k - 1]]) for k, x in enumerate(names)]
        chords = [rule([names[k]], [names[k - 2]]) for k in range(4)]
        program = Program(*ring, *chords)
        self.assertEqual([len(program), program.names], [10, names])
        found = self.timed(list, bases(program))
        self.same(found[0], Program(*ring))
        self.assertGreater(len(found), 1)
        for part in found:
            self.same(list(pairs(part, names)), list(pairs(program)))
            self.same(spare(part), ())
        self.same(self.timed(spare, program), tuple(row for row in program.rules
                                                    if alike(program, program - Program(row)) is None))
        same_ten = Program(*[rule(names[k:], names[:1], names[1:k]) for k in range(1, 6)], *[
            rule(names[k:], names[:1], names[2:k]) for k in range(2, 7)])
        for program in (same_ten, Program(*[choice(x) for x in names], *ring[:4])):
            for part in self.timed(list, bases(program)):
                self.same(list(pairs(part, program.names)), list(pairs(program)))
                self.same(spare(part), ())
            self.same(alike(self.timed(base, program), program), None)

    def test_ten_rules_that_say_much_the_same(self):
        # Heads that are bars, and denied heads that are needs, take nothing away from what a rule says of worlds.
        rows = [(heads, denied, ("a", "b"), ("c", "d")) for heads in subsets("cd") for denied in subsets("ab")]
        program = Program(*rows[:10])
        self.assertEqual(len(program), 10)
        self.same(self.timed(list, bases(program)), programs_of([[row] for row in program.rules]))
        self.same(self.timed(spare, program), program.rules)

    def test_conflicts_of_twelve_rules_and_eight_names(self):
        names = short_names(8)
        for many in (4, 6):
            program = Program.facts(names[:many]) + Program(*[rule([], [x]) for x in names[:many]])
            program = program + Program(*[rule(names, [x]) for x in names[:12 - len(program)]])
            self.assertEqual(len(program), 12)
            found = self.timed(conflicts, program)
            self.same(found, sorted([Program.facts((x,)) + Program(rule([], [x])) for x in names[:many]],
                                    key=lambda part: part.rules))
            self.assertEqual(len(self.timed(cures, program)), 2 ** many)
        wide = Program(rule(names), *[rule([], [x]) for x in names], rule([], bars=names), choice(names[0]), choice("x"))
        self.assertEqual([len(wide)], [12])
        self.same(self.timed(conflicts, wide), [Program(*[rule([], [x]) for x in names], rule([], bars=names)),
                                                Program(*[rule([], [x]) for x in names], rule(names))])
        self.assertEqual(len(self.timed(cures, wide)), 9)

    def test_conflicts_of_random_rules_at_the_limits(self):
        names = short_names(8)
        draw = random.Random(45)
        for _ in range(6):
            rows = set()
            while len(rows) < 12:
                some = draw.sample(names, 2)
                rows.add(rule(some[:draw.randrange(3)], bars=draw.sample(names, draw.randrange(2)))
                         if draw.random() < 0.5 else rule([], some[:1], some[1:]))
            program = Program(*rows)
            found = self.timed(conflicts, program)
            for part in found:
                self.same(list(worlds(part)), [])
                for row in part.rules:
                    self.assertNotEqual(list(worlds(part - Program(row))), [])
            for cure in self.timed(cures, program):
                self.assertNotEqual(list(worlds(program - cure)), [])
                for row in cure.rules:
                    self.same(list(worlds(program - cure + Program(row))), [])

    def test_sixty_rules_of_six_names(self):
        names = self.NAMES
        ring = [rule([x], [y]) for x in names for y in names if x != y]
        wide = [rule([x], [y, z]) for x in names for y in names for z in names if x not in (y, z) and y < z]
        program = Program(*ring, *wide[:30])
        self.assertEqual(len(program), 60)
        self.same(self.timed(spare, program), program.rules)
        found = self.timed(base, program)
        self.same(alike(found, program), None)
        self.same(spare(found), ())

    def test_hundreds_of_rules(self):
        names = self.NAMES
        program = program_of([(w, w) for w in subsets(names)], names)
        self.assertGreater(len(program), 600)
        self.same(self.timed(spare, program), ())
        self.same(self.timed(base, program), program)
        wide = program + Program(*[rule([x], [y]) for x in names for y in names]) + Program(rule([]))
        self.same(self.timed(base, wide), Program(EMPTY_RULE))
        self.assertEqual(len(self.timed(spare, wide)), len(wide) - 1)
        plain = program_of([(names, names)], names, "single")
        for row in plain.rules[::9]:
            self.same(row in spare(plain), alike(plain, plain - Program(row)) is None)
        self.same(alike(self.timed(base, plain), plain), None)

    def test_what_other_functions_return(self):
        desk = Desk()
        desk.put("one", Program.read("a.\na :- b."))
        desk.put("two", Program.read(":- a.\nb :- b."))
        self.same(list(bases(desk.whole)), [Program.read(":- a.\na.")])
        self.same(conflicts(desk.whole), [Program.read(":- a.\na.")])
        self.same(cures(base(desk.whole)), [Program.read(":- a."), Program.read("a.")])
        self.same(conflicts(next(iter(bases(desk.whole)))), [Program.read(":- a.\na.")])
        self.same(spare(lower(desk.whole, ("b",))), ((("b",), (), ("b",), ()),))
        self.same(list(all_answers(desk.whole - cures(desk.whole)[0])), [("a",)])

    def test_pairs_are_those_of_the_document(self):
        # What is spare is told by all pairs of the names of the program, not by its worlds or answers.
        program = Program.read("a | b.\na :- not b.")
        self.gives(((("a",), (), (), ("b",)),), spare, program)
        less = [pair for pair in all_pairs("ab") if pair in slow_pairs(program.rules, ("a", "b"))]
        self.same(list(pairs(base(program))), less)
