"""The form of the package's files: its interface, and those rules of LANGUAGE.md that are easily told of a file."""

import ast
import builtins
import importlib
import inspect
import pathlib
import re
import unittest

from inorderonce.disks import Disk

FOLDER = pathlib.Path(__file__).parent.parent / "inorderonce"
# For each module the functions that the interface lists, with the names of their arguments.
INTERFACE = {
    "lines": {"is_name": ["value"], "is_plain": ["value"], "is_value": ["value"], "line": ["value"],
              "read_line": ["text"]},
    "letters": {"is_item": ["value"], "is_token": ["value"], "is_command": ["value"], "is_letter": ["value"],
                "side": ["letter"], "client_of": ["letter"]},
    "frames": {"framed": ["text"], "all_framed": ["texts"], "frames_in": ["text"], "is_whole": ["value"],
               "cut_at": ["texts", "signs"]},
    "meaning": {"fold": ["commands"]},
    "turns": {"eligible": ["state", "group"]},
    "logs": {"log_meaning": ["disk"]},
    "pictures": {"picture": ["state"], "state_of": ["value"], "text_of": ["state"], "read_state": ["text"],
                 "room": ["topics", "groups", "messages", "producers"]},
    "nodes": {"most_reach": ["counts"]},
    "histories": {"messages": ["commands"], "sendings": ["commands", "producer"], "fates": ["commands", "group"],
                  "settled": ["commands", "group", "key"], "gone": ["commands"], "made_by": ["commands", "maker"]},
    "calm": {"calm": ["world", "rounds"], "left": ["world"], "pairs": ["world", "topic", "signs", "dead"],
             "enough": ["world"]},
    "examiner": {"findings": ["disks"], "on_most": ["disks"], "shared": ["disks"], "last_term": ["disks"],
                 "votes": ["disks", "term"], "able": ["disks"]},
    "actlines": {"act_line": ["act"], "read_act": ["text"]},
}
# For each module and class the methods that the interface lists, with the names of their arguments.
CLASSES = {
    "disks": {"Disk": {"__init__": [], "write": ["name", "text"], "sync": ["name"], "drop": ["name"], "fall": ["keeps"],
                       "arm": ["ops"], "read": ["name"], "names": [], "synced": ["name"], "ops": [], "copy": []}},
    "meaning": {"State": {"__init__": [], "apply": ["command"], "topics": [], "groups": [], "producers": [],
                          "kept": ["topic"],
                          "message": ["number"], "waiting": ["group"], "tries": ["group", "number"],
                          "first": ["group", "key"], "counts": ["group"], "copy": []}},
    "turns": {"Turns": {"__init__": ["state"], "apply": ["command"], "state": [], "eligible": ["group"],
                        "first": ["group", "passed"], "rank": ["group", "number"], "by_key": ["group"]}},
    "logs": {"Log": {"__init__": ["disk"], "rows": [], "last": [], "term_at": ["index"], "row": ["index"],
                     "rows_from": ["index", "most"], "vote": ["term", "who"], "put": ["term", "command"],
                     "cut": ["index"],
                     "keep": ["index", "picture"], "swap": ["index", "term", "picture"]}},
    "nodes": {"Node": {"__init__": ["number", "brokers", "disk"], "last": [], "row": ["index"], "term_at": ["index"],
                       "picture": [], "tick": [], "take": ["letter"], "put": ["command"],
                       "keep": ["index", "picture"]}},
    "leases": {"Leases": {"__init__": [], "give": ["member", "group", "number", "token", "end"],
                          "of": ["member", "group"],
                          "holder": ["group", "number"], "held": ["group"], "drop": ["group", "number"],
                          "ended": ["time"],
                          "listed": []}},
    "brokers": {"Broker": {"__init__": ["number", "brokers", "disk"], "last": [], "row": ["index"], "state": [],
                           "leases": [], "fresh": [], "tick": [], "take": ["letter"]}},
    "clients": {"Producer": {"__init__": ["name", "disk", "brokers"], "put": ["items"], "last": [], "unacked": [],
                             "tick": [], "take": ["letter"]},
                "Member": {"__init__": ["name", "group", "made", "brokers"], "work": ["key", "body"], "tick": [],
                           "take": ["letter"], "holds": [], "told": []}},
    "worlds": {"World": {"__init__": ["brokers", "producers", "members"], "act": ["act"], "run": ["acts"],
                         "brokers": [], "producers": [], "members": [], "letters": [], "answers": [], "reached": [],
                         "log": [], "stands": ["who"], "broker": ["number"], "producer": ["name"],
                         "member": ["name"], "disk": ["who"]}},
    "desk": {"Desk": {"__init__": ["brokers", "producers", "members"], "do": ["text"], "show": [], "script": []}},
}
# For each class the attributes that the interface lists, and what it is made of here.
ATTRIBUTES = [
    ("meaning", "State", ["now", "next"], []), ("logs", "Log", ["term", "base", "base_term", "voted", "picture"],
                                                [Disk()]),
    ("nodes", "Node", ["number", "patience", "taken", "term", "base", "role", "leader"], [0, 1, Disk()]),
    ("brokers", "Broker", ["role", "leader", "term", "taken", "base", "applied"], [0, 1, Disk()]),
    ("clients", "Producer", ["name"], ["ann", Disk(), 1]),
    ("clients", "Member", ["name", "group", "made"], ["bob", "crew", None, 1]),
]
ALLOWED = set("""len range enumerate zip min max sum abs sorted reversed int str bool bytes list tuple dict set
    frozenset isinstance ord repr any all divmod getattr hasattr setattr iter next Exception ValueError TypeError
    KeyError IndexError LookupError ZeroDivisionError ArithmeticError OverflowError RuntimeError NotImplementedError
    AttributeError StopIteration NotImplemented super property staticmethod classmethod""".split())
METHODS = set("""append clear copy count endswith extend find get index insert isalnum isalpha isdigit islower isspace
    isupper items join keys ljust lower lstrip partition pop remove replace reverse rfind rjust rpartition rsplit
    rstrip setdefault split splitlines startswith strip update upper values zfill bit_length title capitalize
    swapcase casefold center expandtabs removeprefix removesuffix rindex isascii isdecimal isnumeric istitle
    isidentifier isprintable translate add discard sort format""".split())
LIBRARY = {"heapq", "math", "itertools", "collections"}
NO_NAMES = set("""register mro elements open input law version_info with_traceback add_note attrgetter breakpoint
    builtins compile copyright credits delattr dir eval exec exit gc globals help id importlib license locals
    methodcaller os quit type vars sys""".split())
NO_WORDS = re.compile(r"\b(type|typing|typing_extensions|enum|Enum|IntEnum|StrEnum|Flag|IntFlag|Generic|Protocol|ABC"
                      r"|ABCMeta|namedtuple|NamedTuple|TypedDict|TYPE_CHECKING|abstractmethod)\b"
                      r"|dataclass|overload|contextmanager")
NO_NODES = (ast.Global, ast.AsyncFunctionDef, ast.Await, ast.AsyncFor, ast.AsyncWith, ast.Import, ast.Div)


def files():
    """Each file of the package: (path, text, tree)."""
    for path in sorted(FOLDER.rglob("*.py")):
        text = path.read_text(encoding="utf-8")
        yield path, text, ast.parse(text)


def own_methods():
    """The names of all methods and functions that the package defines."""
    return {node.name for _, _, tree in files() for node in ast.walk(tree) if isinstance(node, ast.FunctionDef)}


def bound_names(tree):
    """Each name that a file binds."""
    for node in ast.walk(tree):
        if isinstance(node, ast.Name) and not isinstance(node.ctx, ast.Load):
            yield node.id
        elif isinstance(node, (ast.FunctionDef, ast.ClassDef)):
            yield node.name
        elif isinstance(node, ast.arg):
            yield node.arg
        elif isinstance(node, ast.alias):
            yield node.asname or node.name
        elif isinstance(node, ast.ExceptHandler) and node.name:
            yield node.name


def bound_at_top(tree, imports):
    """The names that a file binds at module level, in order; those that it imports only if they are asked for."""
    bound = []
    for node in tree.body:
        if isinstance(node, ast.ImportFrom) and imports:
            bound.extend([alias.asname or alias.name for alias in node.names])
        elif isinstance(node, (ast.FunctionDef, ast.ClassDef)):
            bound.append(node.name)
        elif isinstance(node, ast.Assign):
            bound.append(node.targets[0].id)
    return bound


class Interface(unittest.TestCase):
    def test_functions(self):
        for module, functions in INTERFACE.items():
            held = importlib.import_module(f"inorderonce.{module}")
            for name, arguments in functions.items():
                with self.subTest(module=module, name=name):
                    function = getattr(held, name)
                    self.assertEqual(function.__module__, f"inorderonce.{module}")
                    self.assertEqual(list(inspect.signature(function).parameters), arguments)

    def test_classes(self):
        for module, classes in CLASSES.items():
            for kind, methods in classes.items():
                held = getattr(importlib.import_module(f"inorderonce.{module}"), kind)
                self.assertEqual([held.__module__, held.__bases__], [f"inorderonce.{module}", (object,)])
                for name, arguments in methods.items():
                    with self.subTest(module=module, kind=kind, name=name):
                        self.assertIn(name, vars(held))
                        self.assertEqual(list(inspect.signature(vars(held)[name]).parameters)[1:], arguments)

    def test_attributes(self):
        for module, kind, attributes, places in ATTRIBUTES:
            with self.subTest(module=module, kind=kind):
                made = getattr(importlib.import_module(f"inorderonce.{module}"), kind)(*places)
                self.assertEqual([name for name in attributes if name not in vars(made)], [])


def over_files(check):
    """Make a test of a check of one file: it is done for each file of the package."""
    def test(self):
        for path, text, tree in files():
            with self.subTest(file=path.name):
                check(self, text, tree)
    test.__doc__ = check.__doc__
    return test


class Form(unittest.TestCase):
    def test_files(self):
        """L1, L14: nothing but .py files with plain names."""
        self.assertTrue((FOLDER / "__init__.py").is_file())
        for path in FOLDER.rglob("*"):
            with self.subTest(path=path.name):
                if "__pycache__" not in path.parts:
                    self.assertRegex(path.name, r"^[a-z0-9_]+\.py$")

    @over_files
    def test_size_and_signs(self, text, tree):
        """L10, L14."""
        self.assertRegex(text, r"\A[ -~\n]*\Z")
        rows = text.splitlines()
        self.assertLess(len(rows), 400)
        self.assertLess(max([len(row) for row in rows]), 121)
        for node in ast.walk(tree):
            if isinstance(node, ast.FunctionDef):
                self.assertLess(node.end_lineno - node.lineno, 40, node.name)

    @over_files
    def test_imports(self, text, tree):
        """L2, L16: at the top, by full names, from the very file that defines the name."""
        for node in ast.walk(tree):
            if isinstance(node, ast.ImportFrom):
                self.assertEqual(node.level, 0)
                self.assertIn(node, tree.body)
                if node.module not in LIBRARY:
                    self.assertRegex(node.module, r"^inorderonce\.[a-z0-9_]+$")
                    held = ast.parse((FOLDER.parent / (node.module.replace(".", "/") + ".py")).read_text())
                    for alias in node.names:
                        self.assertIn(alias.name, bound_at_top(held, imports=False))

    def test_no_circle_of_imports(self):
        """L16."""
        near = {path.stem: [node.module.split(".")[1] for node in tree.body if isinstance(node, ast.ImportFrom)
                            and node.module not in LIBRARY] for path, _, tree in files()}
        ahead = set()
        while len(ahead) < len(near):
            free = [module for module in near if module not in ahead and ahead.issuperset(near[module])]
            self.assertTrue(free, "a circle of imports")
            ahead.update(free)

    @over_files
    def test_module_level(self, text, tree):
        """L3, L4, L5: only docstrings, imports, functions, classes and single assignments; no odd decorators."""
        for at, node in enumerate(tree.body):
            docstring = at == 0 and isinstance(node, ast.Expr) and isinstance(node.value, ast.Constant)
            plain = isinstance(node, (ast.ImportFrom, ast.FunctionDef, ast.ClassDef, ast.Assign))
            self.assertTrue(docstring or plain, ast.dump(node)[:80])
            if isinstance(node, ast.Assign):
                self.assertEqual([len(node.targets), isinstance(node.targets[0], ast.Name)], [1, True])
                self.assertFalse([part for part in ast.walk(node.value) if isinstance(part, (ast.Call, ast.Set))])
        for node in ast.walk(tree):
            self.assertNotIsInstance(node, NO_NODES)
            if isinstance(node, ast.ClassDef):
                self.assertEqual(node.decorator_list, [])

    @over_files
    def test_bound_once(self, text, tree):
        """L15, L16: one binding for each name of a module, none of a builtin, and none of an import within."""
        bound = bound_at_top(tree, imports=True)
        self.assertEqual(sorted(bound), sorted(set(bound)))
        fixed = {alias.name for node in tree.body if isinstance(node, ast.ImportFrom) for alias in node.names}
        fixed.update([node.name for node in tree.body if isinstance(node, ast.ClassDef)])
        for node in ast.walk(tree):
            if isinstance(node, (ast.arg, ast.Name)) and not isinstance(getattr(node, "ctx", None), ast.Load):
                self.assertNotIn(node.arg if isinstance(node, ast.arg) else node.id, fixed)

    @over_files
    def test_names(self, text, tree):
        """L8, L12, L15, L17: names that may be bound."""
        taken = set(dir(builtins))
        methods = {node.name for _, _, tree in files() for held in ast.walk(tree) if isinstance(held, ast.ClassDef)
                   for node in held.body if isinstance(node, ast.FunctionDef)}
        for name in bound_names(tree):
            self.assertRegex(name, r"^(_|_?[A-Za-z][A-Za-z0-9_]*|__(init|eq|len|repr|str|iter)__)$")
            self.assertNotIn(name, NO_NAMES)
            if name not in methods:
                self.assertNotIn(name, taken)
        self.assertFalse([node for node in ast.walk(tree) if isinstance(node, ast.Name) and node.id == "_"
                          and isinstance(node.ctx, ast.Load)])

    @over_files
    def test_builtins_and_methods(self, text, tree):
        """L8, L25: only the told builtins, and only the told methods of builtin values."""
        own = own_methods()
        every = set(dir(builtins))
        for node in ast.walk(tree):
            if isinstance(node, ast.Name) and node.id in every:
                self.assertIn(node.id, ALLOWED)
            if isinstance(node, ast.Call) and isinstance(node.func, ast.Attribute):
                self.assertIn(node.func.attr, METHODS | own)

    @over_files
    def test_strings(self, text, tree):
        """L14, L17, L27: no percent sign in a string, no odd escape, and none of the barred words."""
        docstrings = [node.body[0].value for node in ast.walk(tree) if isinstance(
            node, (ast.Module, ast.ClassDef, ast.FunctionDef)) and ast.get_docstring(node) is not None]
        for node in ast.walk(tree):
            if isinstance(node, ast.Constant) and isinstance(node.value, str):
                self.assertNotIn("%", node.value)
                written = ast.get_source_segment(text, node) or ""
                self.assertNotRegex(written, r"(?<!\\)(\\\\)*\\[^nt\\\"']")
                if node not in docstrings:
                    self.assertNotRegex(node.value, NO_WORDS)
                    self.assertNotRegex(node.value, r"\._+$|^__.*__$")
            if isinstance(node, ast.Name):
                self.assertNotRegex(node.id, NO_WORDS)

    @over_files
    def test_texts_with_braces(self, text, tree):
        """L27: an f-string stands on one line, and none within another one."""
        for node in ast.walk(tree):
            if isinstance(node, ast.JoinedStr):
                self.assertEqual(node.lineno, node.end_lineno)
                inner = [part for part in ast.walk(node) if isinstance(part, ast.JoinedStr) and part is not node]
                self.assertEqual([part for part in inner if part.values], [])

    @over_files
    def test_beside_equality(self, text, tree):
        """L7, L24, L25: with an __eq__ no generator expression and no .sort(); sets and generators are not used."""
        for node in ast.walk(tree):
            self.assertNotIsInstance(node, (ast.GeneratorExp, ast.Yield, ast.YieldFrom, ast.Set, ast.SetComp,
                                            ast.Match, ast.Lambda))
            if isinstance(node, ast.Call) and isinstance(node.func, ast.Attribute):
                self.assertNotEqual(node.func.attr, "sort")

    @over_files
    def test_private_names_of_others(self, text, tree):
        """What begins with an underscore is used in the file of its class alone."""
        own = {node.name for held in tree.body if isinstance(held, ast.ClassDef) for node in held.body
               if isinstance(node, ast.FunctionDef)}
        own.update([node.attr for node in ast.walk(tree) if isinstance(node, ast.Attribute)
                    and isinstance(node.ctx, ast.Store)])
        for node in ast.walk(tree):
            if isinstance(node, ast.Attribute) and node.attr.startswith("_"):
                self.assertIn(node.attr, own)

    @over_files
    def test_comparisons_and_handlers(self, text, tree):
        """L19, L20: `is` beside None, True, False or self; only own errors and some of Python's are caught."""
        for node in ast.walk(tree):
            if isinstance(node, ast.Compare):
                for sign, right in zip(node.ops, node.comparators):
                    if isinstance(sign, (ast.Is, ast.IsNot)):
                        self.assertIn(ast.unparse(right), ("None", "True", "False", "self"))
            if isinstance(node, ast.ExceptHandler):
                self.assertIsNotNone(node.type)
                for part in ast.walk(node.type):
                    if isinstance(part, ast.Name):
                        self.assertNotIn(part.id, ("Exception", "TypeError", "RuntimeError", "AttributeError"))


if __name__ == "__main__":
    unittest.main()
