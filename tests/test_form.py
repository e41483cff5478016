"""The form of the code: the names and arguments of the interface, and rules that can be checked by its syntax."""

import ast
import importlib
import inspect
import pathlib
import unittest

PACKAGE = pathlib.Path(__file__).resolve().parent.parent / "firstmeans"

FUNCTIONS = {
    "ratios": {"as_ratio": "(given)", "read_ratio": "(text)", "total": "(numbers)"},
    "scales": {
        "is_lot": "(scale, value)", "is_curve": "(scale, value)", "mean": "(scale, lot, curve)",
        "means_of": "(scale, lot, count)", "uses": "(scale, lot)",
    },
    "curves": {
        "power": "(scale, exponent)", "cover": "(scale, threshold)", "cap": "(scale, limit)",
        "step": "(scale, threshold)", "summed": "(curves, weights)",
    },
    "bends": {
        "divided": "(scale, curve, places)", "bends_up": "(scale, curve, order)", "bends_down": "(scale, curve, order)",
        "orders_up": "(scale, curve)", "orders_down": "(scale, curve)", "stencil": "(scale, place, order)",
        "dual": "(scale, place, order)", "through": "(scale, places, numbers)", "curve_of": "(scale, polynomial)",
        "lies_under": "(one, other)", "parted": "(scale, curve, order)",
        "put_together": "(scale, order, polynomial, weights)",
    },
    "known": {
        "mean_by": "(scale, means, polynomial)", "has": "(scale, means, lot)", "some_lot": "(scale, means)",
        "bar": "(scale, means)", "is_bar": "(scale, means, value)", "corners": "(scale, means)",
        "edge": "(scale, means)", "is_edge": "(scale, means, value)", "is_sole": "(scale, means)",
    },
    "ranks": {
        "weights": "(scale, one, other, order)", "stands_under": "(scale, one, other, order)",
        "parting": "(scale, one, other, order)", "is_parting": "(scale, one, other, order, value)",
        "first_apart": "(scale, one, other)", "crossings": "(scale, one, other)",
    },
    "anycurve": {
        "least": "(scale, means, curve)", "greatest": "(scale, means, curve)",
        "is_least": "(scale, means, curve, value)", "is_greatest": "(scale, means, curve, value)",
        "chances": "(scale, means, places)", "surely": "(scale, means)", "never": "(scale, means)",
        "by_ends": "(scale, means, curve)",
    },
    "nexts": {
        "next_range": "(scale, means)", "least_line": "(scale, means, curve)", "greatest_line": "(scale, means, curve)",
        "at_next": "(scale, means, curve, number)", "next_for": "(scale, means, curve, bound)",
    },
    "sums": {
        "mixture": "(scale, lots, shares)", "added": "(scale, lot, other_scale, other)",
        "added_means": "(means, others)", "led_lot": "(scale, lot, factor, add)", "finer": "(scale, values)",
        "finer_lot": "(scale, values, lot)",
    },
    "toldback": {
        "covers": "(scale, lot)", "lot_of_covers": "(scale, prices)", "fault": "(scale, prices)",
        "claims": "(scale, facts)", "fitting": "(scale, facts)", "clash": "(scale, facts)",
        "is_clash": "(scale, facts, value)", "sure_bounds": "(scale, facts, curve)", "needless": "(scale, facts)",
    },
    "kinds": {
        "all_under": "(scale, means, others, order)", "against": "(scale, means, others, order)",
        "is_against": "(scale, means, others, order, value)", "least_rise": "(scale, means, others, curve)",
        "greatest_rise": "(scale, means, others, curve)", "both": "(scale, means, others, share)",
    },
    "desk": {"read_desk": "(text)"},
    "extremes": {
        "low": "(scale, means)", "high": "(scale, means)", "is_low": "(scale, means, value)",
        "is_high": "(scale, means, value)", "bounds": "(scale, means, curve)", "under": "(scale, means, curve)",
        "over": "(scale, means, curve)", "is_under": "(scale, means, curve, value)",
        "is_over": "(scale, means, curve, value)", "low_forms": "(scale, count)", "high_forms": "(scale, count)",
    },
}
METHODS = {
    ("ratios", "Ratio"): {
        "__init__": "(self, top, bottom=1)", "__add__": "(self, other)", "__sub__": "(self, other)",
        "__mul__": "(self, other)", "__neg__": "(self)", "__eq__": "(self, other)", "__lt__": "(self, other)",
        "__le__": "(self, other)", "over": "(self, number)", "text": "(self)",
    },
    ("scales", "Scale"): {
        "__init__": "(self, values)", "__len__": "(self)", "__eq__": "(self, other)", "marks": "(self)",
        "place": "(self, value)", "led": "(self, factor, add)", "text": "(self)", "read": "(cls, text)",
    },
    ("desk", "Desk"): {
        "__init__": "(self, scale)", "__len__": "(self)", "tell": "(self, number)", "name": "(self, word, curve)",
        "drop": "(self, word)", "put": "(self, value, numbers)", "scale": "(self)", "means": "(self)",
        "names": "(self)", "curve": "(self, word)", "bounds": "(self, word)", "line": "(self, word)",
        "next": "(self)", "ends": "(self)", "settled": "(self)", "undo": "(self)", "redo": "(self)",
        "tried": "(self, act)", "twin": "(self)", "text": "(self)",
    },
}
CALLED = (
    "len range enumerate zip min max sum abs sorted reversed int str bool list tuple dict set isinstance ord repr any "
    "all divmod getattr hasattr setattr iter next super map"
).split()
LIBRARY = {"math": "gcd lcm isqrt comb perm factorial", "itertools": "product combinations permutations chain "
           "accumulate pairwise islice zip_longest", "heapq": "heappush heappop heapify heapreplace heappushpop",
           "collections": "defaultdict deque"}
BANNED = (ast.AsyncFunctionDef, ast.Await, ast.Import, ast.Div, ast.MatMult)


def trees():
    return [(path, ast.parse(path.read_text("ascii"))) for path in sorted(PACKAGE.glob("**/*.py"))]


def called(name):
    return importlib.import_module("firstmeans." + name)


def defined(module):
    """The names that a file of the package itself defines."""
    names = set()
    for node in ast.parse((PACKAGE / (module + ".py")).read_text("ascii")).body:
        if isinstance(node, (ast.FunctionDef, ast.ClassDef)):
            names.add(node.name)
        elif isinstance(node, ast.Assign):
            names.update(target.id for target in node.targets)
    return names


class Interface(unittest.TestCase):
    def test_functions(self):
        for module, wanted in FUNCTIONS.items():
            for name, arguments in wanted.items():
                function = getattr(called(module), name)
                self.assertTrue(inspect.isfunction(function))
                self.assertEqual(function.__module__, "firstmeans." + module)
                self.assertEqual(str(inspect.signature(function)), arguments)

    def test_methods_stand_in_their_class(self):
        for (module, name), wanted in METHODS.items():
            kind = getattr(called(module), name)
            self.assertEqual(kind.__module__, "firstmeans." + module)
            for method, arguments in wanted.items():
                self.assertIn(method, vars(kind))
                function = getattr(vars(kind)[method], "__func__", vars(kind)[method])
                self.assertEqual(str(inspect.signature(function)), arguments)

    def test_read_is_a_class_method(self):
        self.assertIsInstance(vars(called("scales").Scale)["read"], classmethod)

    def test_errors_stand_in_their_file(self):
        for name, kind in vars(called("errors")).items():
            if isinstance(kind, type):
                self.assertEqual((kind.__module__, kind.__name__), ("firstmeans.errors", name))


class Form(unittest.TestCase):
    def test_the_package_is_flat_and_holds_code_only(self):
        found = [path for path in PACKAGE.iterdir() if path.name != "__pycache__"]
        self.assertEqual([path for path in found if path.suffix != ".py" or not path.is_file()], [])
        self.assertIn(PACKAGE / "__init__.py", found)

    def test_sizes_and_signs(self):
        for path in PACKAGE.glob("**/*.py"):
            text = path.read_bytes()
            self.assertTrue(all(sign == 10 or 32 <= sign <= 126 for sign in text), path)
            rows = text.split(b"\n")
            self.assertLessEqual(len(rows) - 1, 399, path)
            self.assertLessEqual(max(len(row) for row in rows), 120, path)

    def test_functions_are_short(self):
        for path, tree in trees():
            for node in ast.walk(tree):
                if isinstance(node, ast.FunctionDef):
                    self.assertLessEqual(node.end_lineno - node.lineno + 1, 40, (path, node.name))

    def test_nothing_of_what_is_barred(self):
        for path, tree in trees():
            for node in ast.walk(tree):
                where = (path.name, getattr(node, "lineno", None))
                self.assertNotIsInstance(node, BANNED, where)
                if isinstance(node, ast.Constant):
                    self.assertNotIsInstance(node.value, (float, complex), where)

    def test_imports(self):
        for path, tree in trees():
            for node in ast.walk(tree):
                if not isinstance(node, ast.ImportFrom):
                    continue
                where = (path.name, node.lineno)
                self.assertEqual([name.asname for name in node.names], [None] * len(node.names), where)
                names = {name.name for name in node.names}
                if node.module in LIBRARY:
                    self.assertLessEqual(names, set(LIBRARY[node.module].split()), where)
                else:
                    folder, module = node.module.split(".")
                    self.assertEqual((folder, node.level), ("firstmeans", 0), where)
                    self.assertLessEqual(names, defined(module), where)

    def test_no_builtin_but_those_of_the_subset(self):
        builtin = set(dir(importlib.import_module("builtins")))
        for path, tree in trees():
            for node in ast.walk(tree):
                if isinstance(node, ast.Call) and isinstance(node.func, ast.Name) and node.func.id in builtin:
                    self.assertIn(node.func.id, CALLED, (path.name, node.lineno))

    def test_no_builtin_gets_another_meaning(self):
        builtin = set(dir(importlib.import_module("builtins")))
        for path, tree in trees():
            methods = [node for kind in tree.body if isinstance(kind, ast.ClassDef) for node in kind.body
                       if isinstance(node, ast.FunctionDef)]
            for node in ast.walk(tree):
                taken = None
                if isinstance(node, ast.Name) and isinstance(node.ctx, ast.Store):
                    taken = node.id
                elif isinstance(node, ast.arg):
                    taken = node.arg
                elif isinstance(node, ast.FunctionDef) and node not in methods:
                    taken = node.name
                self.assertNotIn(taken, builtin, (path.name, getattr(node, "lineno", None)))
            # A method may be called next, but otherwise as no builtin that the subset has.
            self.assertEqual(set(CALLED) & {node.name for node in methods} - {"next"}, set(), path.name)

    def test_nothing_is_sorted_that_may_hold_ratios(self):
        for path, tree in trees():
            for node in ast.walk(tree):
                where = (path.name, getattr(node, "lineno", None))
                if isinstance(node, ast.Call) and isinstance(node.func, ast.Name):
                    # Only what is written as a list of strings is sorted.
                    if not ast.unparse(node).startswith("sorted([str("):
                        self.assertNotIn(node.func.id, ("sorted", "min", "max"), where)
                elif isinstance(node, ast.Attribute):
                    self.assertNotEqual(node.attr, "sort", where)

    def test_no_variable_has_the_name_of_an_import_or_a_class_of_its_file(self):
        for path, tree in trees():
            taken = {name.name for node in tree.body if isinstance(node, ast.ImportFrom) for name in node.names}
            taken |= {node.name for node in tree.body if isinstance(node, ast.ClassDef)}
            for node in ast.walk(tree):
                if isinstance(node, ast.Name) and isinstance(node.ctx, ast.Store):
                    self.assertNotIn(node.id, taken, (path.name, node.lineno))
                elif isinstance(node, ast.arg):
                    self.assertNotIn(node.arg, taken, (path.name, node.lineno))
            functions = [node.name for node in tree.body if isinstance(node, ast.FunctionDef)]
            self.assertEqual(len(functions), len(set(functions) - taken), path.name)

    def test_no_two_files_import_from_each_other(self):
        imports = {}
        for path, tree in trees():
            names = [node.module for node in ast.walk(tree) if isinstance(node, ast.ImportFrom)]
            imports[path.stem] = {name.split(".")[1] for name in names if name.startswith("firstmeans.")}
        while imports:
            free = [stem for stem, needed in imports.items() if not needed & set(imports)]
            self.assertGreater(len(free), 0, imports)
            imports = {stem: needed for stem, needed in imports.items() if stem not in free}
