"""Worlds, pairs and answers (points 1, 2, 5 to 7 and the section ruleworlds/worlds.py)."""

import random

from ruleworlds import worlds as module
from ruleworlds.errors import InvalidPair, InvalidRule, InvalidWorld, NotAProgram
from ruleworlds.programs import Program, choice, rule
from ruleworlds.worlds import answers, holds, holds_in, is_answer, pairs, rule_holds, rule_holds_in, worlds
from tests.helpers import (EMPTY_RULE, FACT, Case, all_pairs, all_rules, short_names, slow_answers, slow_names,
                           slow_pairs, slow_rule_holds, slow_rule_holds_in, slow_worlds, some_programs, subsets,
                           wrong_pairs, wrong_programs, wrong_rules, wrong_worlds)

class HoldsTest(Case):

    def test_all_rules_in_all_worlds(self):
        for row in all_rules("ab"):
            for world in subsets("abc"):
                wanted = slow_rule_holds(row, world)
                self.assertIs(rule_holds(row, world), wanted, (row, world))
                self.assertIs(holds(Program(row), world), wanted, (row, world))

    def test_all_rules_in_all_pairs(self):
        for row in all_rules("ab"):
            for here, there in all_pairs("abc"):
                wanted = slow_rule_holds_in(row, here, there)
                self.assertIs(rule_holds_in(row, (here, there)), wanted, (row, here, there))
                self.assertIs(holds_in(Program(row), (here, there)), wanted, (row, here, there))

    def test_programs_need_all_their_rules(self):
        for rows in some_programs("abc", 5, 150, random.Random(5)):
            program = Program(*rows)
            for world in subsets("abc"):
                self.assertIs(holds(program, world), all(slow_rule_holds(row, world) for row in rows))
            for here, there in all_pairs("abc"):
                wanted = all(slow_rule_holds_in(row, here, there) for row in rows)
                self.assertIs(holds_in(program, (here, there)), wanted)

    def test_reasons_one_by_one(self):
        row = (("a",), ("b",), ("c",), ("d",))
        self.gives(False, rule_holds, row, ("b", "c"))
        self.gives(True, rule_holds, row, ("b",))
        self.gives(True, rule_holds, row, ("b", "c", "d"))
        self.gives(True, rule_holds, row, ("a", "b", "c"))
        self.gives(True, rule_holds, row, ("c",))
        self.gives(False, rule_holds_in, row, (("b", "c"), ("b", "c")))
        self.gives(False, rule_holds_in, row, (("c",), ("a", "b", "c")))
        self.gives(True, rule_holds_in, row, (("b",), ("a", "b", "c")))
        self.gives(True, rule_holds_in, row, (("c",), ("a", "b", "c", "d")))
        self.gives(True, rule_holds_in, row, (("a", "c"), ("a", "b", "c")))
        self.gives(True, rule_holds_in, row, (("c",), ("a", "c")))
        self.gives(False, rule_holds_in, row, ((), ("b", "c")))

    def test_empty_ones(self):
        for world in ((), ("a",), ("a", "b")):
            self.gives(True, holds, Program(), world)
            self.gives(True, holds_in, Program(), ((), world))
            self.gives(False, holds, Program(EMPTY_RULE), world)
            self.gives(False, holds_in, Program(EMPTY_RULE), ((), world))
            self.gives(False, rule_holds, EMPTY_RULE, world)
            self.gives(False, rule_holds_in, EMPTY_RULE, (world, world))

    def test_a_pair_of_one_world_is_that_world(self):
        for row in all_rules("ab"):
            for world in subsets("ab"):
                self.assertIs(rule_holds_in(row, (world, world)), rule_holds(row, world))

    def test_a_head_that_is_a_bar(self):
        row = (("a",), (), (), ("a",))
        self.gives(False, rule_holds, row, ())
        self.gives(True, rule_holds, row, ("a",))
        self.gives(True, rule_holds_in, row, ((), ("a",)))
        self.gives(False, rule_holds_in, row, ((), ()))

    def test_names_beyond_the_program(self):
        self.gives(True, holds, Program(FACT), ("a", "x", "y"))
        self.gives(False, holds, Program(FACT), ("x", "y"))
        self.gives(True, holds_in, Program.read("a :- b."), (("x",), ("x", "y")))
        self.gives(False, holds_in, Program.read("a."), (("x",), ("a", "x")))

    def test_by_name(self):
        self.gives(True, holds, world=("a",), program=Program(FACT))
        self.gives(False, holds_in, pair=((), ("a",)), program=Program(FACT))
        self.gives(True, rule_holds, world=("a",), rule=FACT)
        self.gives(False, rule_holds_in, pair=((), ("a",)), rule=FACT)


class WrongTest(Case):

    def test_wrong_programs(self):
        for thing in wrong_programs():
            for call, more in ((holds, [(), None]), (holds_in, [((), ()), None]), (is_answer, [(), None])):
                for other in more:
                    self.error(NotAProgram, "thing", thing, call, thing, other)
            self.error(NotAProgram, "thing", thing, answers, thing)
            self.error(NotAProgram, "thing", thing, answers, program=thing)

    def test_wrong_programs_of_functions_that_yield(self):
        for thing in wrong_programs():
            for call in (worlds, pairs):
                for args in ((), (None,), ((),), (("a",),), ("a",), (["a"],)):
                    self.error(NotAProgram, "thing", thing, first, call, thing, *args)
                self.error(NotAProgram, "thing", thing, first, call, names=0, program=thing)

    def test_wrong_rules(self):
        for thing in wrong_rules():
            for other in ((), ((), ()), None, "a"):
                self.error(InvalidRule, "place", 0, rule_holds, thing, other)
                self.error(InvalidRule, "place", 0, rule_holds_in, thing, other)
            self.error(InvalidRule, "place", 0, rule_holds, world=None, rule=thing)

    def test_wrong_worlds(self):
        for thing in wrong_worlds():
            for program in (Program(), Program(FACT), Program(EMPTY_RULE)):
                self.error(InvalidWorld, "thing", thing, holds, program, thing)
                self.error(InvalidWorld, "thing", thing, is_answer, program, thing)
            self.error(InvalidWorld, "thing", thing, rule_holds, FACT, thing)
            self.error(InvalidWorld, "thing", thing, rule_holds, EMPTY_RULE, world=thing)
            self.error(InvalidWorld, "thing", thing, is_answer, world=thing, program=Program(FACT))

    def test_wrong_pairs(self):
        for thing in wrong_pairs():
            for program in (Program(), Program(FACT), Program(EMPTY_RULE)):
                self.error(InvalidPair, "thing", thing, holds_in, program, thing)
            self.error(InvalidPair, "thing", thing, rule_holds_in, FACT, thing)
            self.error(InvalidPair, "thing", thing, rule_holds_in, EMPTY_RULE, pair=thing)

    def test_wrong_names(self):
        for thing in wrong_worlds():
            if thing is not None:
                for call in (worlds, pairs):
                    self.error(InvalidWorld, "thing", thing, first, call, Program(), thing)
                    self.error(InvalidWorld, "thing", thing, first, call, Program(FACT), names=thing)

    def test_names_that_lack_one_of_the_program(self):
        program = Program.read("a :- not c.")
        for names in ((), ("a",), ("c",), ("b",), ("a", "b"), ("b", "c"), ("a", "b", "d")):
            for call in (worlds, pairs):
                self.error(InvalidWorld, "thing", names, first, call, program, names)
        for place in range(4):
            row = [()] * 4
            row[place] = ("b",)
            for call in (worlds, pairs):
                self.error(InvalidWorld, "thing", (), first, call, Program(tuple(row)), ())
                self.error(InvalidWorld, "thing", ("a",), first, call, Program(tuple(row)), ("a",))


def first(call, *args, **named):
    """Ask a function that yields for its first item."""
    for item in call(*args, **named):
        return item
    return None


class YieldTest(Case):

    def test_all_programs_of_one_rule(self):
        for row in all_rules("ab"):
            program, own = Program(row), slow_names([row])
            self.gives(slow_worlds([row], own), lambda p: list(worlds(p)), program)
            self.gives(slow_pairs([row], own), lambda p: list(pairs(p)), program)
            self.gives(slow_answers([row]), answers, program)

    def test_some_programs(self):
        for rows in some_programs("abc", 6, 150, random.Random(6)):
            program, own = Program(*rows), slow_names(rows)
            self.gives(slow_worlds(rows, own), lambda p: list(worlds(p)), program)
            self.gives(slow_pairs(rows, own), lambda p: list(pairs(p, None)), program)
            self.gives(slow_answers(rows), answers, program)

    def test_simple_programs_of_four_names(self):
        draw = random.Random(7)
        narrow = [row for row in all_rules("abcd") if sum(map(len, row)) < 4 and len(row[1]) < 2]
        for _ in range(120):
            rows = draw.sample(narrow, draw.randrange(1, 9))
            wanted = slow_answers(rows)
            self.gives(wanted, answers, Program(*rows))
            for world in subsets("abcd"):
                self.assertIs(is_answer(Program(*rows), world), world in wanted)

    def test_more_names_than_the_program_has(self):
        for rows in some_programs("bd", 3, 40, random.Random(8)):
            for names in (("b", "d"), ("a", "b", "d"), ("b", "c", "d", "e")):
                program = Program(*rows)
                self.same(list(worlds(program, names)), slow_worlds(rows, names))
                self.same(list(pairs(program, names)), slow_pairs(rows, names))
                self.same(list(worlds(names=names, program=program)), slow_worlds(rows, names))
                self.same(list(pairs(names=names, program=program)), slow_pairs(rows, names))

    def test_the_program_without_rules(self):
        self.same(list(worlds(Program())), [()])
        self.same(list(worlds(Program(), ())), [()])
        self.same(list(worlds(Program(), None)), [()])
        self.same(list(pairs(Program())), [((), ())])
        self.same(list(pairs(Program(), ())), [((), ())])
        self.same(list(worlds(Program(), ("a", "b"))), [(), ("a",), ("a", "b"), ("b",)])
        self.same(list(pairs(Program(), ("a",))), [((), ()), ((), ("a",)), (("a",), ("a",))])
        self.same(list(worlds(Program(EMPTY_RULE), ("a",))), [])
        self.same(list(pairs(Program(EMPTY_RULE), ("a",))), [])

    def test_ascending(self):
        names = ("a", "aa", "ab", "b", "ba")
        found = list(worlds(Program(), names))
        self.same(found, sorted(found))
        self.assertEqual(len(found), 32)
        found = list(pairs(Program(), names))
        self.same(found, sorted(found))
        self.assertEqual(len(found), 243)

    def test_asked_again_and_in_between(self):
        program = Program.read("a | b.")
        one, other = iter(worlds(program)), iter(worlds(program))
        self.same([next(one), next(other), next(one), next(one), next(other)],
                  [("a",), ("a",), ("a", "b"), ("b",), ("a", "b")])
        self.same(list(one), [])
        self.same(list(other), [("b",)])


class AnswersTest(Case):

    WANTED = {
        "": [()], ":-.": [], "a.": [("a",)], ":- a.": [()], "a | b.": [("a",), ("b",)], "a :- a.": [()], "not a.": [()],
        "a :- not a.": [], "a | not a.": [(), ("a",)], "a :- not b.": [("a",)], "a :- b.\nb :- a.": [()],
        "a :- not b.\nb :- not a.": [("a",), ("b",)], ":- not a.": [], "a :- not a.\na.": [("a",)], "a.\n:- a.": [],
        "a | b.\na :- b.\nb :- a.": [("a", "b")], "a :- not b.\nb :- not a.\na :- b.\nb :- a.": [],
        "a | not a.\nb | not b.": [(), ("a",), ("a", "b"), ("b",)], "a | b.\n:- a.": [("b",)],
        "a | b.\na | not a.": [("a",), ("b",)], "a | not b.": [()], "a | not b.\nb | not b.": [(), ("a", "b")],
        "a | b | c.\n:- not b, not c.": [("b",), ("c",)], "a :- b, c.\nb.\nc :- not d.": [("a", "b", "c")],
        "a :- not b.\nb :- not c.\nc :- not a.": [], "not a | not b.\na | not a.\nb | not b.": [(), ("a",), ("b",)],
    }

    def test_answers(self):
        for text, wanted in self.WANTED.items():
            program = Program.read(text) if text else Program()
            self.gives(wanted, answers, program)
            self.gives(wanted, answers, program=program)
            for world in subsets(program.names + ("x",)):
                self.gives(world in wanted, is_answer, program, world)
                self.gives(world in wanted, is_answer, world=world, program=program)

    def test_answers_consist_of_names_of_the_program(self):
        self.gives(False, is_answer, Program(FACT), ("a", "b"))
        self.gives(False, is_answer, Program(), ("a",))
        self.gives(True, is_answer, Program(), ())
        self.gives(False, is_answer, Program.read("b | not b."), ("a",))
        self.gives(False, is_answer, Program(FACT), ())

    def test_each_list_is_new(self):
        program = Program(choice("a"))
        found = answers(program)
        found.append(None)
        self.same(answers(program), [(), ("a",)])

    def test_where_the_functions_stand(self):
        for call in (holds, rule_holds, holds_in, rule_holds_in, worlds, pairs, answers, is_answer):
            self.assertEqual(call.__module__, "ruleworlds.worlds")
            self.assertIs(getattr(module, call.__name__), call)


class LimitTest(Case):

    def test_ten_names_that_may_all_be_chosen(self):
        names = short_names(10)
        idle = [rule([name, other], [name, other]) for name in names for other in names if name < other]
        program = Program(*[choice(name) for name in names], *idle[:50])
        self.assertGreater(len(program), 54)
        self.same(self.timed(answers, program), subsets(names))
        self.same(self.timed(list, worlds(program)), subsets(names))
        self.assertIs(self.timed(is_answer, program, names), True)
        self.assertIs(self.timed(holds_in, program, ((), names)), False)

    def test_ten_names_and_sixty_rules_with_one_answer(self):
        names = short_names(10)
        ring = [rule([y], [x]) for x in names for y in names if x != y]
        for many in range(9, 60, 10):
            draw = random.Random(many)
            program = Program(rule(names), *draw.sample(ring, many))
            found = self.timed(answers, program)
            self.assertEqual([world for world in found if not is_answer(program, world)], [])
            self.assertGreater(len(found), 0)

    def test_ten_names_of_a_disjunction(self):
        names = short_names(10)
        self.same(self.timed(answers, Program(rule(names))), [(name,) for name in names])
        self.same(self.timed(answers, Program.facts(names)), [names])

    def test_sums_of_programs_of_ten_names(self):
        names = short_names(10)
        program = Program(*[choice(name) for name in names[1:]])
        idle = [rule([names[0], x, y], [x], denied=[z]) for x in names[1:] for y in names[1:] for z in names[1:]]
        for start in range(0, 600, 60):
            program = program + Program(*idle[start:start + 60])
        self.assertGreater(len(program), 600)
        self.same(self.timed(answers, program), subsets(names[1:]))
        self.assertIs(self.timed(is_answer, program, names[1:]), True)
        self.assertIs(self.timed(is_answer, program, names), False)

    def test_pairs_of_six_names_and_many_rules(self):
        names = tuple("abcdef")
        rows = [rule(there, here, [x for x in names if x not in there], here) for here, there in all_pairs(names)]
        program = Program(*rows)
        self.assertGreater(len(program), 600)
        found = self.timed(list, pairs(program))
        self.same(found, sorted(found))
        self.same(found, [pair for pair in all_pairs(names) if holds_in(program, pair)])
        self.assertEqual(len(self.timed(list, pairs(Program(), names))), 729)

    def test_no_limit_is_checked(self):
        names = short_names(12)
        program = Program.facts(names[:11]) + Program(*all_rules("c")) - Program(*all_rules("c")) + Program(choice(names[11]))
        self.same(answers(program), [names[:11], names])
        self.same(list(worlds(program)), [names[:11], names])
        self.assertIs(holds(Program.facts(short_names(50)), short_names(50)), True)
        self.assertIs(is_answer(Program.facts(short_names(18)), short_names(18)), True)
        self.assertEqual(len(list(pairs(Program(), names[:7]))), 3 ** 7)
