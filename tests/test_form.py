"""The interface as it is listed, and the simplest rules that all files of the package keep."""

import ast
import builtins
import importlib
import os
import re
import unittest

FOLDER = os.path.join(os.path.dirname(os.path.dirname(os.path.abspath(__file__))), "fairmasks")

# What has landed of the interface: for each file its functions and classes with their parameters.
INTERFACE = {
    "rows": {"contents": 1, "in_box": 2, "is_box": 2, "is_list": 2, "box_at": 3, "both": 3},
    "habits": {"Habit": 2, "share": 3, "patterns": 1, "unfair": 1, "is_fair": 1, "box_shares": 1, "habit_of": 2},
    "sharing": {"share_behind": 4, "share_struck": 4, "wrong_share": 2, "mixed": 3, "hidden_again": 2, "renamed": 2},
    "programs": {"Program": 2},
    "running": {"run": 3, "habit_by": 1, "is_blind": 1, "peeks": 2, "alike": 2},
    "askers": {"Asker": 2, "coming": 2, "asker_habit": 1, "opened": 2},
    "making": {"program_of": 1, "asker_of": 1},
    "lists": {"nests": 2, "order": 2, "many_orders": 2, "ring": 2, "is_ring": 3, "given_up": 2},
    "bets": {"is_bet": 2, "pays": 2, "ring_habit": 2, "ring_bet": 2},
    "papers": {"asker_for": 1, "bet_for": 1, "best_bet": 1, "greatest_share": 1, "twin": 1},
    "trust": {"is_enough": 3, "trusts": 2, "behind": 2},
    "cuttings": {"is_fair_showing": 2, "shown_by": 3, "tree_of": 2, "stuck": 2, "unlike_pair": 2, "pair_showing": 2,
                 "showing_of": 2, "cuttings": 1},
    "questions": {"is_telling": 3, "weights_for": 2, "two_chances": 2, "mean": 3, "spread": 3, "spread_of_rows": 3},
    "book": {"Book": 1},
    "keeper": {"Keeper": 2, "risen": 4},
    "falls": {"breach": 2, "is_breach": 3, "sway": 5},
    "texts": {"program_text": 1, "shares_text": 1, "log_text": 1},
    "reading": {"read_program": 1, "read_shares": 1, "read_log": 1},
}
# For each class of it the methods that stand in it itself.
METHODS = {
    "Habit": ["__init__", "__eq__"], "Program": ["__init__", "__eq__"], "Asker": ["__init__", "__eq__"],
    "Book": ["__init__", "put", "take", "exchange", "ask", "drop", "answer", "names", "boxes", "counts", "back", "deeds",
             "copy"],
    "Keeper": ["__init__", "put", "due", "throw", "go", "fall", "log", "shown", "looked", "peeked", "copy"],
}
# The methods of builtin values that may be called.
BUILTIN_METHODS = """append clear copy count endswith extend find get index insert isalnum isalpha isdigit islower isspace
    isupper items join keys ljust lower lstrip partition pop remove replace reverse rfind rjust rpartition rsplit rstrip
    setdefault split splitlines startswith strip update upper values zfill bit_length""".split()
ITERATED = ["list", "tuple", "dict", "sorted", "sum", "any", "all", "enumerate", "zip", "min", "max", "len", "reversed"]
BARRED_NAMES = ["register", "mro", "elements", "open", "input", "law", "version_info", "with_traceback", "add_note"]
BARRED_WORDS = ["type", "typing", "enum", "Enum", "Flag", "Generic", "Protocol", "ABC", "namedtuple", "dataclass",
                "overload", "contextmanager"]
LIBRARY = {
    "heapq": ["heappush", "heappop", "heapify", "heapreplace", "heappushpop"],
    "math": ["gcd", "lcm", "isqrt", "comb", "perm", "factorial"],
    "itertools": ["product", "combinations", "permutations", "chain", "accumulate", "pairwise", "islice",
                  "zip_longest"],
    "collections": ["defaultdict"],
}
BUILTINS = """len range enumerate zip min max sum abs sorted reversed int str bool bytes list tuple dict set frozenset
    isinstance ord repr any all divmod pow map iter next getattr hasattr setattr super property staticmethod
    classmethod Exception ValueError TypeError KeyError IndexError LookupError ZeroDivisionError ArithmeticError
    OverflowError RuntimeError NotImplementedError AttributeError StopIteration NotImplemented""".split()
# Python keeps the last value that was shown under the name _ there.
OUTSIDE = [name for name in dir(builtins) if not name.startswith("_")]
TAKE_LISTS = ["any", "all", "min", "max", "sum", "sorted"]


def package_files():
    return sorted(name for name in os.listdir(FOLDER) if name != "__pycache__")


def read(name):
    with open(os.path.join(FOLDER, name), encoding="utf-8") as held:
        return held.read()


def trees():
    return [(name, ast.parse(read(name))) for name in package_files()]


def nodes(kind):
    return [(name, node) for name, tree in trees() for node in ast.walk(tree) if isinstance(node, kind)]


def imports_of(tree):
    return [node for node in tree.body if isinstance(node, (ast.Import, ast.ImportFrom))]


def bound_at_top(tree):
    """The names that a file itself defines."""
    names = []
    for node in tree.body:
        if isinstance(node, (ast.FunctionDef, ast.ClassDef)):
            names.append(node.name)
        elif isinstance(node, ast.Assign):
            names.extend(target.id for target in node.targets)
    return names


class Interface(unittest.TestCase):
    def test_names_are_defined_in_their_files(self):
        for module, names in INTERFACE.items():
            defined = bound_at_top(ast.parse(read(module + ".py")))
            for name in names:
                self.assertEqual(defined.count(name), 1, name)

    def test_names_take_their_arguments_by_position(self):
        for module, names in INTERFACE.items():
            for name, many in names.items():
                made = getattr(importlib.import_module("fairmasks." + module), name)
                code = made.__init__.__code__ if isinstance(made, type) else made.__code__
                self.assertEqual(code.co_argcount - isinstance(made, type), many, name)
                self.assertEqual(code.co_kwonlyargcount, 0, name)


    def test_methods_stand_in_the_classes_themselves(self):
        found = {node.name: node for _, node in nodes(ast.ClassDef)}
        for name, methods in METHODS.items():
            own = [node.name for node in found[name].body if isinstance(node, ast.FunctionDef)]
            self.assertEqual(sorted(set(methods) - set(own)), [], name)


class Files(unittest.TestCase):
    def test_the_folder_holds_plain_python_files_alone(self):
        self.assertIn("__init__.py", package_files())
        for name in package_files():
            self.assertRegex(name, r"^[a-z0-9_]+\.py$")

    def test_sizes_and_characters(self):
        for name in package_files():
            lines = read(name).split("\n")
            self.assertLessEqual(len(lines), 399, name)
            for line in lines:
                self.assertLessEqual(len(line), 120, (name, line))
                self.assertTrue(all(" " <= sign <= "~" for sign in line), (name, line))

    def test_functions_are_small(self):
        for name, node in nodes(ast.FunctionDef):
            self.assertLessEqual(node.end_lineno - node.lineno + 1, 40, (name, node.name))

    def test_imports(self):
        files = {"fairmasks." + name[:-3]: bound_at_top(tree) for name, tree in trees()}
        for name, tree in trees():
            self.assertEqual(len(imports_of(tree)), len([n for n in ast.walk(tree) if isinstance(
                n, (ast.Import, ast.ImportFrom))]), name)
            for node in imports_of(tree):
                self.assertIsInstance(node, ast.ImportFrom, name)
                allowed = LIBRARY.get(node.module, files.get(node.module, []))
                for alias in node.names:
                    self.assertIn(alias.name, allowed, (name, node.module))
                    self.assertIsNone(alias.asname)

    def test_no_two_files_import_each_other(self):
        left = {"fairmasks." + name[:-3]: {node.module for node in imports_of(tree)} for name, tree in trees()}
        while left:
            free = [module for module in left if not left[module] & set(left)]
            self.assertNotEqual(free, [], left)
            left = {module: left[module] for module in left if module not in free}


class Code(unittest.TestCase):
    def test_only_named_builtins_are_used(self):
        for name, node in nodes(ast.Name):
            if node.id in OUTSIDE:
                self.assertIn(node.id, BUILTINS, (name, node.lineno))
                self.assertIsInstance(node.ctx, ast.Load, (name, node.lineno))

    def test_no_name_is_that_of_a_builtin(self):
        for name, node in nodes(ast.arg):
            self.assertNotIn(node.arg, OUTSIDE, (name, node.lineno))
        for name, tree in trees():
            for bound in bound_at_top(tree):
                self.assertNotIn(bound, OUTSIDE, name)

    def test_no_parameter_or_variable_is_called_like_an_import(self):
        for name, tree in trees():
            taken = {alias.name for node in imports_of(tree) for alias in node.names}
            taken |= {node.name for node in tree.body if isinstance(node, ast.ClassDef)}
            bound = [node.arg for node in ast.walk(tree) if isinstance(node, ast.arg)]
            bound += [node.id for node in ast.walk(tree)
                      if isinstance(node, ast.Name) and not isinstance(node.ctx, ast.Load)]
            self.assertEqual([word for word in bound if word in taken], [], name)

    def test_no_floats_and_no_division(self):
        for name, node in nodes(ast.Constant):
            self.assertNotIsInstance(node.value, (float, complex), (name, node.lineno))
        for name, node in nodes(ast.Div):
            self.fail(name)

    def test_exponents_are_literals(self):
        for name, node in nodes(ast.BinOp):
            if isinstance(node.op, ast.Pow):
                self.assertIsInstance(node.right, ast.Constant, (name, node.lineno))
                self.assertIn(node.right.value, range(65), (name, node.lineno))

    def test_no_statements_outside_of_the_language(self):
        for kind in (ast.Global, ast.AsyncFunctionDef, ast.Await, ast.TryStar):
            self.assertEqual(nodes(kind), [])

    def test_what_compares_takes_no_generator(self):
        for name, node in nodes(ast.Call):
            if isinstance(node.func, ast.Name) and node.func.id in TAKE_LISTS:
                for argument in node.args:
                    self.assertNotIsInstance(argument, ast.GeneratorExp, (name, node.lineno))

    def test_is_stands_beside_none_and_flags_alone(self):
        for name, node in nodes(ast.Compare):
            for sign, other in zip(node.ops, node.comparators):
                if isinstance(sign, (ast.Is, ast.IsNot)):
                    self.assertIsInstance(other, ast.Constant, (name, node.lineno))
                    self.assertIn(other.value, (None, True, False), (name, node.lineno))

    def test_errors_are_raised_by_name(self):
        for name, node in nodes(ast.Raise):
            self.assertTrue(node.exc is None or isinstance(node.exc, ast.Call), (name, node.lineno))

    def test_only_own_errors_are_caught_and_by_name(self):
        own = bound_at_top(ast.parse(read("errors.py")))
        for name, node in nodes(ast.Try):
            self.assertEqual(node.finalbody, [], (name, node.lineno))
            for handler in node.handlers:
                self.assertIsInstance(handler.type, ast.Name, (name, node.lineno))
                self.assertIn(handler.type.id, own, (name, node.lineno))

    def test_words_that_are_barred_from_strings(self):
        for name, node in nodes(ast.Constant):
            if isinstance(node.value, str):
                self.assertNotIn("%", node.value, (name, node.lineno))

    def test_names_that_are_barred(self):
        for name, tree in trees():
            words = set(re.findall(r"[A-Za-z_]+", re.sub(r'""".*?"""|#.*', "", read(name), flags=re.DOTALL)))
            self.assertEqual(words & set(BARRED_WORDS), set(), name)
            for node in ast.walk(tree):
                for field in ("id", "attr", "arg", "name"):
                    self.assertNotIn(getattr(node, field, None), BARRED_NAMES, (name, getattr(node, "lineno", 0)))

    def test_names_begin_with_a_letter(self):
        for name, node in nodes((ast.Name, ast.arg, ast.FunctionDef, ast.ClassDef)):
            word = getattr(node, "id", getattr(node, "arg", getattr(node, "name", None)))
            self.assertRegex(word, r"^(_|[A-Za-z][A-Za-z0-9_]*|__init__|__eq__)$", (name, node.lineno))
            if word == "_" and isinstance(node, ast.Name):
                self.assertIsInstance(node.ctx, ast.Store, (name, node.lineno))

    def test_statements_that_are_not_used(self):
        # All of these are let somewhere, by rules that these tests do not know.
        for kind in (ast.Yield, ast.YieldFrom, ast.GeneratorExp, ast.Lambda, ast.With, ast.Match, ast.NamedExpr,
                     ast.Starred, ast.JoinedStr, ast.Delete, ast.Nonlocal, ast.Assert, ast.AnnAssign):
            self.assertEqual(nodes(kind), [])
        for name, node in nodes(ast.FunctionDef):
            self.assertEqual(node.decorator_list, [], (name, node.name))
            self.assertFalse(node.args.vararg or node.args.kwarg or node.args.kwonlyargs, (name, node.name))

    def test_only_named_methods_are_called(self):
        own = {node.name for _, node in nodes(ast.FunctionDef)}
        for name, node in nodes(ast.Call):
            if isinstance(node.func, ast.Attribute):
                # What is added is added to a set of the function itself.
                self.assertIn(node.func.attr, own | set(BUILTIN_METHODS) | {"add"}, (name, node.lineno))

    def test_attributes_that_are_read_are_assigned(self):
        assigned = {node.attr for _, node in nodes(ast.Attribute) if isinstance(node.ctx, ast.Store)}
        methods = {node.name for _, kind in nodes(ast.ClassDef) for node in kind.body if isinstance(node, ast.FunctionDef)}
        self.assertEqual(assigned & methods, set())
        for name, tree in trees():
            called = {node.func for node in ast.walk(tree) if isinstance(node, ast.Call)}
            for node in ast.walk(tree):
                if isinstance(node, ast.Attribute) and node not in called:
                    self.assertIn(node.attr, assigned, (name, node.lineno))

    def test_ranges_and_views_are_iterated_at_once(self):
        for name, tree in trees():
            right = set()
            for node in ast.walk(tree):
                if isinstance(node, (ast.For, ast.comprehension)):
                    right.add(node.iter)
                elif isinstance(node, ast.Call) and isinstance(node.func, ast.Name) and node.func.id in ITERATED:
                    right.update(node.args[:2] if node.func.id in ("zip",) else node.args[:1])
            for node in ast.walk(tree):
                if isinstance(node, ast.Call):
                    word = getattr(node.func, "id", getattr(node.func, "attr", None))
                    if word in ("range", "zip", "enumerate", "reversed", "items", "keys", "values"):
                        self.assertIn(node, right, (name, node.lineno))
                    if word in ("combinations", "permutations", "product"):
                        self.assertIn(node, right, (name, node.lineno))
                        self.assertIsInstance(node.args[0], ast.Name, (name, node.lineno))

    def test_sets_are_only_asked(self):
        for name, tree in trees():
            right = {argument for node in ast.walk(tree) if isinstance(node, ast.Call)
                     and isinstance(node.func, ast.Name) and node.func.id in ("sorted", "len") for argument in node.args}
            stored = {node.value for node in ast.walk(tree) if isinstance(node, ast.Assign)}
            for node in ast.walk(tree):
                made = isinstance(node, ast.Call) and isinstance(node.func, ast.Name) and node.func.id == "set"
                if made or isinstance(node, (ast.Set, ast.SetComp)):
                    self.assertIn(node, right | stored, (name, node.lineno))

    def test_keywords_of_builtins(self):
        for name, node in nodes(ast.Call):
            if isinstance(node.func, ast.Name) and node.func.id in BUILTINS:
                for keyword in node.keywords:
                    self.assertIn((node.func.id, keyword.arg), [("sorted", "key"), ("sorted", "reverse"), ("min", "key"),
                                                                ("max", "key")], (name, node.lineno))


if __name__ == "__main__":
    unittest.main()
