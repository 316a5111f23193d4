"""What holds of the whole package: what it uses, and that each run gives the same (point 1)."""

import ast
import importlib
import inspect
import os
import pathlib
import subprocess
import sys
import unittest

ROOT = pathlib.Path(__file__).resolve().parent.parent
FILES = sorted((ROOT / "ruleworlds").glob("*.py"))

MODULES = ["__init__", "alike", "bases", "checks", "desk", "errors", "founded", "layers", "makes", "programs", "worlds"]

SCRIPT = """
from ruleworlds.alike import alike, follows
from ruleworlds.bases import base, bases, conflicts, cures, spare
from ruleworlds.desk import Desk
from ruleworlds.founded import record, values
from ruleworlds.layers import all_answers, layers, lower, possible, rest, splits, sure
from ruleworlds.makes import barred, program_of
from ruleworlds.programs import Program, choice, rule
from ruleworlds.worlds import answers, pairs, worlds
p = Program(choice("zb"), choice("a", ["c", "zb"]), rule(["d", "c", "ab"], bars=["e"]), rule(["e"], ["e"], ["d", "a"]))
print(p.rules, p.names, p.kind, p.written())
print((p + Program.facts(("f", "g"))).written(), (p - Program(choice("zb"))).rules)
print(list(worlds(p)), list(pairs(p)), answers(p))
q = Program.read("a :- not b.\\nb :- not a.\\nc :- d.\\nd :- c.\\ne.")
for added in ("rules", "facts", "nothing"):
    part, world = alike(q, Program.read("a | b."), added)
    print(part.written(), world)
print(follows(q, rule(["a", "b"])), values(q), record(q), program_of(list(pairs(q))[::-1], q.names, "single").written())
print(barred(list(pairs(q))[1:], q.names), program_of([], ("a", "b")).written())
print(layers(p), splits(p, ("zb",)), layers(q), list(all_answers(p)), list(all_answers(q)), sure(q), possible(q))
print(lower(q, ("a", "b")).written(), rest(q, ("a", "b"), ("a",)).written())
c = q + Program.read("e :- c.\\n:- e.\\n:- a, b.\\na | b.")
print(spare(c), base(c).written(), [part.written() for part in bases(c)])
print([part.written() for part in conflicts(c)], [part.written() for part in cures(c)])
d = Desk()
d.do(("put", "two", c), ("put", "one", p), ("switch", "two"))
print(d.sheets, d.lit, d.whole.written(), d.change(), d.copy() == d)
"""

# The parameters of all that the interface lists, as they stand there.
INTERFACE = {
    "programs": {
        "is_rule": "thing", "is_world": "thing", "rule": "heads=() needs=() bars=() denied=()",
        "choice": "name needs=() bars=()", "Program": "*rules", "Program.of": "rules", "Program.facts": "world",
        "Program.read": "text", "Program.written": "self",
    },
    "worlds": {
        "holds": "program world", "rule_holds": "rule world", "holds_in": "program pair", "rule_holds_in": "rule pair",
        "worlds": "program names=None", "pairs": "program names=None", "answers": "program",
        "is_answer": "program world",
    },
    "alike": {
        "alike": "one other added='rules'", "check_parting": "one other thing added='rules'", "follows": "program rule",
    },
    "makes": {"barred": "pairs names kind='any'", "program_of": "pairs names kind='any'"},
    "founded": {"values": "program", "record": "program", "check_record": "program thing"},
    "layers": {
        "splits": "program names", "lower": "program names", "rest": "program names world", "layers": "program",
        "all_answers": "program", "sure": "program", "possible": "program",
    },
    "bases": {name: "program" for name in ("spare", "bases", "base", "conflicts", "cures")},
    "desk": {
        "Desk": "", "Desk.put": "self sheet program", "Desk.drop": "self sheet", "Desk.switch": "self sheet",
        "Desk.do": "self *deeds", "Desk.undo": "self", "Desk.change": "self", "Desk.copy": "self",
    },
}


class PackageTest(unittest.TestCase):

    def test_the_interface_stands_where_it_is_listed(self):
        for file, listed in INTERFACE.items():
            module = importlib.import_module(f"ruleworlds.{file}")
            for name, wanted in listed.items():
                thing = module
                for word in name.split("."):
                    thing = getattr(thing, word)
                self.assertEqual(thing.__module__, module.__name__, name)
                shown = [str(each) for each in inspect.signature(thing).parameters.values()]
                self.assertEqual(" ".join(shown), wanted, name)

    def test_it_imports_only_itself(self):
        self.assertEqual([path.stem for path in FILES], sorted(MODULES))
        for path in FILES:
            for node in ast.walk(ast.parse(path.read_text())):
                self.assertNotIsInstance(node, ast.Import, path)
                if isinstance(node, ast.ImportFrom):
                    self.assertTrue(node.module.startswith("ruleworlds."), path)
                if isinstance(node, ast.Name):
                    self.assertNotIn(node.id, ("open", "print", "input", "hash", "id", "eval", "exec"), path)

    def test_the_folder_holds_nothing_else(self):
        names = [path.name for path in (ROOT / "ruleworlds").iterdir() if path.name != "__pycache__"]
        self.assertEqual(sorted(names), [path.name for path in FILES])

    def test_sizes(self):
        for path in FILES:
            lines = path.read_text().split("\n")
            self.assertLess(len(lines), 400, path)
            self.assertLessEqual(max(map(len, lines)), 120, path)
            for node in ast.walk(ast.parse(path.read_text())):
                if isinstance(node, ast.FunctionDef):
                    self.assertLessEqual(node.end_lineno - node.lineno, 39, node.name)

    def test_each_run_gives_the_same(self):
        seen = set()
        for seed in range(5):
            settings = dict(os.environ, PYTHONHASHSEED=str(seed), PYTHONPATH=str(ROOT))
            done = subprocess.run([sys.executable, "-c", SCRIPT], env=settings, capture_output=True, text=True, check=True)
            seen.add(done.stdout)
        self.assertEqual(len(seen), 1)
