"""Names, rules and programs (points 1 to 4, 9 and the section ruleworlds/programs.py)."""

import random

from ruleworlds.errors import InvalidNames, InvalidRule, InvalidWorld, NotAProgram, Unreadable
from ruleworlds.programs import Program, choice, is_rule, is_world, rule
from tests.helpers import (EMPTY_RULE, FACT, Case, all_rules, anything, nested, odd_for, same, short_names, slow_names,
                           slow_written, subsets)

GOOD_NAMES = ["a", "z", "no", "nota", "knot", "nott", "ot", "nt", "abcdefgh", "zzzzzzzz", "abcdefghijklmnopqrstuvwxyz"[5:13]]
BAD_NAMES = ["", "not", "abcdefghi", "A", "aB", "a1", "1", " ", "a ", " a", "a b", "a\n", "\n", "a.", "a-b", "_", "a_",
             "`", "{", "~", "not a", "nots not"]
WORLDS = [(), ("a",), ("a", "b"), ("a", "ab", "b"), ("nota",), ("abcdefgh", "abcdefgz"), short_names(40), short_names(41)]
RULES = [EMPTY_RULE, FACT, (("a",), ("b",), ("c",), ("d",)), (("a",), ("a",), ("a",), ("a",)),
         ((), ("a",), (), ()), ((), (), ("a", "b"), ()), ((), (), (), ("b",)), (("a", "b", "c"), (), ("a",), ("a", "b")),
         (short_names(40),) * 4]


class NamesTest(Case):

    def test_worlds(self):
        for world in WORLDS:
            self.gives(True, is_world, world)
            self.gives(True, is_world, thing=world)

    def test_no_worlds(self):
        for thing in odd_for("", "a", "ab", [], ["a"], ["a", "b"], ("b", "a"), ("a", "a"), ("a", "b", "b"),
                             ("a", "c", "b"), FACT, ((), ()), Program(), Program(FACT), [("a",)]):
            self.gives(False, is_world, thing)

    def test_names_in_worlds(self):
        for name in GOOD_NAMES:
            self.gives(True, is_world, (name,))
        for name in BAD_NAMES:
            self.gives(False, is_world, (name,))
            self.gives(False, is_world, tuple(sorted(("a", name, "z"))))

    def test_rules(self):
        for row in RULES + all_rules("ab"):
            self.assertIs(is_rule(row), True, row)
        self.gives(True, is_rule, thing=FACT)

    def test_no_rules(self):
        for thing in odd_for("", "a", [], (), ("a",), ("a", "b", "c", "d"), ["a"], ((), ()), Program(), Program(FACT),
                             list(FACT), (Program(),) * 4, "a.", "abcd"):
            self.gives(False, is_rule, thing)

    def test_each_of_the_four_sets_counts(self):
        for place in range(4):
            for bad in odd_for(["a"], "a", "", [], ("b", "a"), ("a", "a"), Program(), FACT, ((), ())):
                row = [("a",), ("b",), ("c",), ("d",)]
                row[place] = bad
                self.gives(False, is_rule, tuple(row))


class RuleTest(Case):

    def test_order_and_repetition(self):
        self.gives((("a", "b"), (), (), ()), rule, ["b", "a", "b", "a"])
        self.gives((("a", "b"), (), (), ()), rule, ("b", "a", "a"))
        self.gives((("aa", "ab", "b"), ("c", "d"), ("e", "f"), ("g", "h")), rule,
                   ("b", "ab", "aa"), ["f", "e", "f"], ("h", "g"), ["d", "c", "d"])

    def test_the_four_arguments(self):
        self.gives((("a",), ("d",), ("b",), ("c",)), rule, ("a",), ("b",), ("c",), ("d",))
        self.gives((("a",), ("d",), ("b",), ("c",)), rule, denied=("d",), bars=["c"], needs=("b",), heads=["a"])
        self.gives((("a",), ("a",), ("a",), ("a",)), rule, ["a"], ["a"], ["a"], ["a"])
        self.gives(EMPTY_RULE, rule)
        self.gives(EMPTY_RULE, rule, [], (), [], ())
        self.gives(((), (), ("b",), ()), rule, needs=["b"])
        self.gives(((), (), (), ("b",)), rule, bars=["b"])
        self.gives(((), ("b",), (), ()), rule, denied=["b"])
        self.gives((("b",), (), (), ()), rule, heads=["b"])

    def test_all_rules_come_of_it(self):
        for row in all_rules("ab"):
            heads, denied, needs, bars = row
            self.same(rule(heads, needs, bars, denied), row)
            self.same(rule(list(heads)[::-1], list(needs)[::-1], list(bars)[::-1], list(denied)[::-1] * 2), row)

    def test_names(self):
        for name in GOOD_NAMES:
            self.gives(((), (name,), (), ()), rule, denied=[name])
        for name in BAD_NAMES:
            for words in ([name], (name,), ["a", name], (name, "b", "b")):
                self.error(InvalidNames, "thing", words, rule, words)

    def test_many_names(self):
        names = short_names(60)
        self.gives((names, names, names, names), rule, names[::-1], list(names), names + names, names)

    def wrong(self):
        return odd_for("", "a", "ab", Program(), Program(FACT), FACT, EMPTY_RULE, ((), ()), [["a"]], [[]])

    def test_wrong_arguments(self):
        for thing in self.wrong():
            self.error(InvalidNames, "thing", thing, rule, thing)
            self.error(InvalidNames, "thing", thing, rule, (), thing)
            self.error(InvalidNames, "thing", thing, rule, ["a"], ["b"], thing)
            self.error(InvalidNames, "thing", thing, rule, ["b", "a", "a"], [], (), thing)
            for place in ("heads", "needs", "bars", "denied"):
                self.error(InvalidNames, "thing", thing, rule, **{place: thing})

    def test_the_first_wrong_argument_is_told(self):
        bad = [None, "b", ["c", 3], {"d": 4}]
        for good in range(4):
            args = [["a"]] * good + bad[good:]
            self.error(InvalidNames, "thing", bad[good], rule, *args)
        self.error(InvalidNames, "thing", 2, rule, denied=4, bars=3, needs=2)
        self.error(InvalidNames, "thing", 3, rule, denied=4, bars=3)
        self.error(InvalidNames, "thing", ["b", "a", "A"], rule, ["b", "a", "A"], None)

    def test_lists_that_are_passed_stay_free(self):
        heads = ["b", "a"]
        row = rule(heads)
        heads.append("c")
        self.same(row, (("a", "b"), (), (), ()))


class ChoiceTest(Case):

    def test_choices(self):
        self.gives((("a",), ("a",), (), ()), choice, "a")
        self.gives((("a",), ("a",), ("b", "c"), ("d", "e")), choice, "a", ["c", "b"], ("e", "d", "e"))
        self.gives((("a",), ("a",), ("a",), ("a",)), choice, bars=["a"], needs=("a",), name="a")
        self.gives((("a",), ("a",), (), ("b",)), choice, "a", bars=("b",))
        for name in GOOD_NAMES:
            self.gives(((name,), (name,), (), ()), choice, name)

    def test_wrong_names(self):
        for thing in odd_for("", (), [], ("a",), ["a"], FACT, ((), ()), Program(), Program(FACT), *BAD_NAMES):
            self.error(InvalidNames, "thing", thing, choice, thing)
            self.error(InvalidNames, "thing", thing, choice, thing, None, None)
            self.error(InvalidNames, "thing", thing, choice, name=thing)

    def test_wrong_needs_and_bars(self):
        for thing in odd_for("", "a", Program(), FACT):
            self.error(InvalidNames, "thing", thing, choice, "a", thing)
            self.error(InvalidNames, "thing", thing, choice, "a", (), thing)
            self.error(InvalidNames, "thing", thing, choice, "a", bars=thing)
            self.error(InvalidNames, "thing", thing, choice, "a", thing, 5)


class ProgramTest(Case):

    def test_rules_are_ascending_and_without_repetition(self):
        rows = random.Random(1).sample(all_rules("ab"), 60)
        for args in (rows, rows[::-1], rows + rows, sorted(rows)):
            self.same(Program(*args).rules, tuple(sorted(rows)))
            self.same(Program.of(args).rules, tuple(sorted(rows)))
            self.same(Program.of(tuple(args)).rules, tuple(sorted(rows)))
            self.same(Program.of(rules=args).rules, tuple(sorted(rows)))
        self.same(Program().rules, ())
        self.same(Program.of([]).rules, ())
        self.same(Program.of(()).rules, ())
        self.same(Program(EMPTY_RULE).rules, (EMPTY_RULE,))
        self.assertIs(type(Program.of([FACT])), Program)

    def test_of_leaves_its_list(self):
        rows = [(("b",), (), (), ()), FACT, FACT]
        kept = list(rows)
        program = Program.of(rows)
        self.same(rows, kept)
        rows.clear()
        self.assertEqual(len(program), 2)

    def wrong_rules(self):
        return odd_for("", "a", "a.", (), [], ("a",), ["a"], ((), ()), Program(), Program(FACT), list(FACT))

    def test_wrong_rules(self):
        for thing in self.wrong_rules():
            self.error(InvalidRule, "place", 0, Program, thing)
            self.error(InvalidRule, "place", 1, Program, FACT, thing, thing)
            self.error(InvalidRule, "place", 2, Program, FACT, FACT, thing, FACT)
            self.error(InvalidRule, "place", 0, Program.of, [thing])
            self.error(InvalidRule, "place", 0, Program.of, (thing, None))
            self.error(InvalidRule, "place", 3, Program.of, rules=(FACT, EMPTY_RULE, FACT, thing))
            self.error(InvalidRule, "place", 1, Program.of, [FACT, thing, FACT, thing])

    def test_facts(self):
        self.same(Program.facts(("a", "b")).rules, (FACT, (("b",), (), (), ())))
        self.same(Program.facts(()).rules, ())
        self.same(Program.facts(world=("a",)).rules, (FACT,))
        self.same(Program.facts(short_names(41)).names, short_names(41))
        for thing in odd_for("", "a", [], ["a"], ["a", "b"], ("b", "a"), ("a", "a"), FACT, ((), ()), Program(),
                             Program(FACT)):
            self.error(InvalidWorld, "thing", thing, Program.facts, thing)
            self.error(InvalidWorld, "thing", thing, Program.facts, world=thing)

    def test_names(self):
        self.same(Program().names, ())
        self.same(Program(EMPTY_RULE).names, ())
        self.same(Program((("d",), ("b",), ("c",), ("a",))).names, ("a", "b", "c", "d"))
        for place in range(4):
            row = [()] * 4
            row[place] = ("b", "x")
            self.same(Program(tuple(row), FACT).names, ("a", "b", "x"))
        draw = random.Random(2)
        for _ in range(100):
            rows = draw.sample(all_rules("abc"), draw.randrange(5))
            self.same(Program(*rows).names, slow_names(rows))

    def test_kind(self):
        single = [EMPTY_RULE, FACT, (("a",), (), ("a", "b"), ("a", "b")), ((), (), ("a", "b"), ("c", "d"))]
        plain = [(("a", "b"), (), (), ()), (("a", "b", "c"), (), ("a",), ("d",))]
        other = [((), ("a",), (), ()), (("a",), ("a",), (), ()), (("a", "b"), ("a", "b"), (), ())]
        self.same(Program().kind, "single")
        for row in single:
            self.same(Program(row).kind, "single")
        for row in plain:
            self.same(Program(row).kind, "plain")
            self.same(Program(row, *single).kind, "plain")
        for row in other:
            self.same(Program(row).kind, "any")
            self.same(Program(row, *single, *plain).kind, "any")
        self.same(Program(*single).kind, "single")

    def test_properties_are_not_assigned(self):
        program = Program(FACT)
        for name in ("rules", "names", "kind"):
            with self.assertRaises(AttributeError):
                setattr(program, name, ())

    def test_the_interface_stands_in_the_class(self):
        for name in ("of", "facts", "written", "read", "rules", "names", "kind", "__add__", "__sub__", "__contains__",
                     "__len__", "__eq__"):
            self.assertIn(name, Program.__dict__)
        for thing in (is_rule, is_world, rule, choice, Program):
            self.assertEqual(thing.__module__, "ruleworlds.programs")


class OperatorTest(Case):

    def test_sums_and_differences(self):
        draw = random.Random(3)
        rows = draw.sample(all_rules("abc"), 12)
        for _ in range(200):
            one = draw.sample(rows, draw.randrange(8))
            other = draw.sample(rows, draw.randrange(8))
            p, q = Program(*one), Program(*other)
            self.same((p + q).rules, tuple(sorted(set(one) | set(other))))
            self.same((p - q).rules, tuple(sorted(set(one) - set(other))))
            self.same(p.rules, tuple(sorted(one)))
            self.same(q.rules, tuple(sorted(other)))

    def test_in_place_signs_make_new_programs(self):
        p = kept = Program(FACT)
        p += Program(EMPTY_RULE)
        self.same(kept.rules, (FACT,))
        self.same(p.rules, (EMPTY_RULE, FACT))
        p -= Program(FACT)
        self.same(p.rules, (EMPTY_RULE,))

    def test_sums_with_other_things(self):
        for thing in odd_for("", "a", "a.", (), [], ("a",), FACT, EMPTY_RULE, ((), ())):
            for program in (Program(), Program(FACT)):
                self.error(NotAProgram, "thing", thing, lambda p, q: p + q, program, thing)
                self.error(NotAProgram, "thing", thing, lambda p, q: p - q, program, thing)

    def test_in(self):
        rows = [FACT, EMPTY_RULE, (("a", "b"), ("b",), ("c",), ())]
        program = Program(*rows)
        for row in all_rules("ab") + rows:
            self.assertIs(row in program, row in rows)
            self.assertIs(row not in program, row not in rows)
            self.assertIs(row in Program(), False)

    def test_in_with_other_things(self):
        program = Program(FACT, EMPTY_RULE)
        for thing in odd_for("", "a", "a.", (), [], ("a",), ((), ()), Program(), program, list(FACT), [FACT], (FACT,)):
            self.assertIs(thing in program, False, thing)
            self.assertIs(thing in Program(), False, thing)

    def test_len(self):
        self.same(len(Program()), 0)
        self.same(len(Program(EMPTY_RULE)), 1)
        self.same(len(Program(FACT, FACT, EMPTY_RULE)), 2)
        self.same(len(Program(*all_rules("ab"))), 256)

    def test_equal(self):
        one = Program(FACT, EMPTY_RULE)
        self.assertIs(one == Program(EMPTY_RULE, FACT, FACT), True)
        self.assertIs(one != Program(EMPTY_RULE, FACT), False)
        self.assertIs(Program() == Program.read(""), True)
        for other in (Program(), Program(FACT), Program(EMPTY_RULE), Program(FACT, EMPTY_RULE, (("b",), (), (), ()))):
            self.assertIs(one == other, False)
            self.assertIs(other == one, False)
            self.assertIs(one != other, True)

    def test_unequal_to_anything_else(self):
        for program in (Program(), Program(FACT)):
            for thing in odd_for("", "a.", (), [], FACT, (FACT,), [FACT], [program], (program,), {"a": program}):
                self.assertIs(program == thing, False, thing)
                self.assertIs(thing == program, False, thing)
                self.assertIs(program != thing, True, thing)


class WrittenTest(Case):

    LINES = {
        ":-.": EMPTY_RULE, "a.": FACT, "not a.": ((), ("a",), (), ()), ":- a.": ((), (), ("a",), ()),
        ":- not a.": ((), (), (), ("a",)), "a | b.": (("a", "b"), (), (), ()),
        "not a | not b.": ((), ("a", "b"), (), ()), "a | not a.": (("a",), ("a",), (), ()),
        "a | b | not a | not c.": (("a", "b"), ("a", "c"), (), ()), ":- a, b, not a, not b.": ((), (), ("a", "b"), ("a", "b")),
        "a | not b :- c, not d.": (("a",), ("b",), ("c",), ("d",)), "a :- a, not a.": (("a",), (), ("a",), ("a",)),
        "not b :- not d.": ((), ("b",), (), ("d",)), "a :- b.": (("a",), (), ("b",), ()),
        "a | not a :- a, not a.": (("a",),) * 4, "nota :- abcdefgh, not knot.": (("nota",), (), ("abcdefgh",), ("knot",)),
    }

    def test_lines(self):
        for line, row in self.LINES.items():
            self.same(Program(row).written(), line)
            self.same(Program.read(line).rules, (row,))
            self.same(Program.read(text=line).rules, (row,))

    def test_programs_ascend_by_their_rules_as_tuples(self):
        rows = sorted(self.LINES.values())
        lines = {row: line for line, row in self.LINES.items()}
        self.same(Program(*rows).written(), "\n".join(lines[row] for row in rows))
        self.same(Program.read("b.\na | b.\na.\n:- a.").written(), ":- a.\na.\na | b.\nb.")
        self.same(Program.read("a.\naa.\na :- b.\na | not a.").written(), "a.\na :- b.\na | not a.\naa.")

    def test_every_rule_of_two_names_comes_back(self):
        seen = set()
        for row in all_rules("ab"):
            line = Program(row).written()
            self.same(line, slow_written([row]))
            self.same(Program.read(line).rules, (row,))
            seen.add(line)
        self.assertEqual(len(seen), 256)

    def test_programs_come_back(self):
        draw = random.Random(4)
        for _ in range(100):
            rows = draw.sample(all_rules("abc"), draw.randrange(20))
            text = Program(*rows).written()
            self.same(text, slow_written(rows))
            lines = text.split("\n") if text else []
            draw.shuffle(lines)
            again = lines + lines[:3]
            self.same(Program.read("\n".join(again)).rules, tuple(sorted(rows)))

    def test_the_program_without_rules(self):
        self.gives("", Program().written)
        self.same(Program.read("").rules, ())
        self.same(Program.read(":-.").rules, (EMPTY_RULE,))

    def test_lines_read_twice(self):
        self.same(Program.read("a.\na.").rules, (FACT,))
        self.same(Program.read(":-.\na.\n:-.\na.").rules, (EMPTY_RULE, FACT))


BAD_LINES = [
    " ", "a", "a. ", " a.", "a .", "b | a.", "a | a.", "not b | a.", "not b | not a.", "not a | not a.", "a:-b.",
    "a :-b.", "a:- b.", "a :- .", "a :-.", ":- .", ":-", ".", ":-a.", ":-  a.", " :- a.", " :-.", ":-..", "a,b.", "a, b.",
    "a | b :- c d.", "a :- c,d.", "a :- d, c.", "a :- c, c.", "a :- not d, c.", "a :- not d, not c.", "a :- not c, not c.",
    "a :- not not c.", "not.", "not not.", "a | not not.", "a | not.", "a :- not.", "a :- b, not.", "A.", "a1.",
    "abcdefghi.", "a :- abcdefghi.", "a..", "a. b.", "a.b.", "a :- b :- c.", "a |b.", "a| b.", "a|b.", "a  | b.", "a | .",
    " | a.", "a :- b, .", "a :- , b.", "a | | b.", "a :- b | c.", "a, b :- c.", "not  a.", "nota a.", "not a | b.", "# a.",
    "a :- b.:-", ":- not a, b.", "a | b | a.", "a ; b.", "~a.", "-a.", "a :- b c.", "a b.", "(a).", "a :- b,  c.",
    "a :- b;", "a!", "a :- b!", ":-!", "a::- b.", "a : b.", "a :- b.c", "not a.not a.", "a  :- b.", "a :-  b.", ":-:- a.",
    ":- :- a.", "a :- :- b.", ":-ca.", "notnot a.", "a | nota b.", "(('a',), (), (), ())", "{a}.", "a\ta.", "\ta.",
]


class ReadTest(Case):

    def test_bad_lines(self):
        for line in BAD_LINES + ["b" * 9 + ".", "a" * 3000 + ".", "a | " * 500 + "b.", ", " * 400]:
            self.error(Unreadable, "line", 1, Program.read, line)
            self.error(Unreadable, "line", 2, Program.read, "a.\n" + line)
            self.error(Unreadable, "line", 2, Program.read, "a.\n" + line + "\n:-.\n?")
            self.error(Unreadable, "line", 4, Program.read, text="a.\n:-.\na.\n" + line)

    def test_line_ends(self):
        for text, line in (("a.\n", 2), ("\n", 1), ("\na.", 1), ("a.\n\nb.", 2), ("a.\nb.\n", 3), ("a.\n\n", 2), (":-.\n", 2),
                           ("a\n.", 1), ("a |\nb.", 1), ("a.\r\nb.", 1), ("a.\rb.", 1), ("a.\x0bb.", 1), ("\n\n", 1)):
            self.error(Unreadable, "line", line, Program.read, text)

    def test_names_in_lines(self):
        for name in GOOD_NAMES:
            row = ((name,), (name,), (name,), (name,))
            self.same(Program.read(f"{name} | not {name} :- {name}, not {name}.").rules, (row,))
        for name in BAD_NAMES:
            if "\n" not in name and name != "not a":
                for text in (f"{name}.", f"not {name}.", f"a | {name}.", f":- {name}, z.", f":- not {name}."):
                    self.error(Unreadable, "line", 1, Program.read, text)

    def test_other_things_than_text(self):
        for thing in odd_for((), [], ("a",), ["a."], ("a.",), FACT, (FACT,), Program(), Program(FACT), {"a.": "a."}):
            if not isinstance(thing, str):
                self.error(Unreadable, "line", 0, Program.read, thing)
                self.error(Unreadable, "line", 0, Program.read, text=thing)

    def test_anything_is_read_or_refused(self):
        for thing in anything():
            if thing in ("", "a.", "a | b."):
                self.same(Program.read(thing).written(), thing)
            else:
                with self.assertRaises(Unreadable):
                    Program.read(thing)


class LimitTest(Case):

    def test_sixty_rules_and_forty_names(self):
        names = short_names(40)
        rows = [(names[k % 40:], names[:k % 30], names, names[k // 2:]) for k in range(60)]
        program = Program(*rows)
        self.assertEqual(program.names, names)
        self.same(Program.read(program.written()).rules, program.rules)
        self.same((program - Program(*rows[:30]) + Program(*rows[:30])).rules, program.rules)

    def test_no_limit_is_checked(self):
        names = short_names(200)
        program = Program.facts(names) + Program((names, names, names, names), *all_rules("ab"))
        self.assertEqual(len(program.names), len(set(names) | {"a", "b"}))
        self.same(Program.read(program.written()).rules, program.rules)
        self.assertIs(is_world(names), True)

    def test_values_far_within_one_another(self):
        for kind in (list, tuple, dict):
            deep = nested(kind, 50)
            self.gives(False, is_rule, deep)
            self.gives(False, is_world, deep)
            self.error(InvalidRule, "place", 0, Program, deep)
            self.error(InvalidNames, "thing", deep, rule, deep)
            self.assertIs(deep in Program(FACT), False)
            self.assertIs(deep == Program(FACT), False)
            self.assertTrue(same(deep, nested(kind, 50)))

    def test_worlds_of_all_sizes(self):
        for world in subsets("abcd"):
            self.assertIs(is_world(world), True)
            self.assertIs(is_world(world[::-1]), len(world) < 2)
