"""The form of the code: some of the rules for the package that a test can see."""

import ast
import builtins
import os
import re
import unittest

FOLDER = os.path.join(os.path.dirname(os.path.dirname(os.path.abspath(__file__))), "sealgrove")

BUILTINS = set("""
len range enumerate zip min max sum abs sorted reversed int str bool list tuple dict set isinstance ord repr any all
divmod ValueError KeyError IndexError NotImplemented
""".split())

METHODS = set("""
append clear copy count endswith extend find get index insert isalnum isalpha isdigit islower isspace isupper items join
keys ljust lower lstrip partition pop remove replace reverse rfind rjust rpartition rsplit rstrip setdefault split
splitlines startswith strip update upper values zfill bit_length
""".split())

BARRED = set("""
register mro elements open input law version_info with_traceback add_note attrgetter breakpoint builtins compile copyright
credits delattr dir eval exec exit gc getattr globals hasattr help id importlib license locals methodcaller os quit setattr
super type vars sys typing enum Enum Flag Generic Protocol ABC namedtuple dataclass
""".split())

NODES = (
    ast.Global, ast.AsyncFunctionDef, ast.AsyncFor, ast.AsyncWith, ast.Await, ast.Yield, ast.YieldFrom, ast.Set,
    ast.SetComp, ast.Div, ast.MatMult, ast.Import, ast.NamedExpr, ast.With, ast.Match, ast.Starred,
)


def files():
    return sorted(name for name in os.listdir(FOLDER) if name != "__pycache__")


def text_of(name):
    with open(os.path.join(FOLDER, name), encoding="ascii") as file:
        return file.read()


def trees():
    return {name: ast.parse(text_of(name)) for name in files()}


def nodes(tree, *kinds):
    return [node for node in ast.walk(tree) if isinstance(node, kinds)]


def imported(tree):
    return {name.name: node.module for node in nodes(tree, ast.ImportFrom) for name in node.names}


def defined(tree):
    names = [node.name for node in tree.body if isinstance(node, (ast.FunctionDef, ast.ClassDef))]
    return names + [target.id for node in tree.body if isinstance(node, ast.Assign) for target in node.targets]


def local_names(tree):
    names = [node.arg for node in nodes(tree, ast.arg)]
    for function in nodes(tree, ast.FunctionDef):
        names += [node.id for node in nodes(function, ast.Name) if isinstance(node.ctx, ast.Store)]
    return names


class Form(unittest.TestCase):
    def test_files(self):
        self.assertIn("__init__.py", files())
        for name in files():
            self.assertRegex(name, r"^[a-z0-9_]+\.py$")
            text = text_of(name)
            self.assertFalse(set(text) - {chr(code) for code in range(32, 127)} - {"\n"})
            lines = text.split("\n")
            self.assertLessEqual(len(lines), 400)
            self.assertLessEqual(max(len(line) for line in lines), 120)

    def test_functions_are_small(self):
        for name, tree in trees().items():
            for node in nodes(tree, ast.FunctionDef):
                self.assertLessEqual(node.end_lineno - node.lineno + 1, 40, (name, node.name))
                self.assertEqual(node.decorator_list, [])

    def test_imports_name_the_file_that_defines(self):
        everything = trees()
        needs = {}
        for name, tree in everything.items():
            needs[name] = set()
            for word, module in imported(tree).items():
                self.assertRegex(module, r"^sealgrove\.[a-z0-9_]+$")
                other = module.partition(".")[2] + ".py"
                self.assertIn(word, defined(everything[other]))
                needs[name].add(other)
        # Files that import no file that is left can be taken away, until none is left.
        while needs:
            free = [name for name in needs if not needs[name] & set(needs)]
            self.assertTrue(free, "files import from each other")
            for name in free:
                del needs[name]

    def test_imports_and_module_names_are_used(self):
        everything = trees()
        asked = {(module, word) for tree in everything.values() for word, module in imported(tree).items()}
        for name, tree in everything.items():
            read = {node.id for node in nodes(tree, ast.Name) if isinstance(node.ctx, ast.Load)}
            self.assertFalse(set(imported(tree)) - read, name)
            for node in tree.body:
                if isinstance(node, ast.Assign):
                    word = node.targets[0].id
                    self.assertTrue(word in read or ("sealgrove." + name[:-3], word) in asked, (name, word))

    def test_module_level(self):
        for name, tree in trees().items():
            self.assertIsNotNone(ast.get_docstring(tree), name)
            for node in tree.body[1:]:
                self.assertIsInstance(node, (ast.ImportFrom, ast.FunctionDef, ast.ClassDef, ast.Assign))
            bound = defined(tree) + list(imported(tree))
            self.assertEqual(len(bound), len(set(bound)))

    def test_names(self):
        for name, tree in trees().items():
            bound = set(defined(tree)) | set(imported(tree))
            locals_here = set(local_names(tree))
            self.assertFalse(bound & locals_here, name)
            self.assertFalse((bound | locals_here) & (set(dir(builtins)) - {"_"}), name)
            free = {node.id for node in nodes(tree, ast.Name)} - bound - locals_here
            self.assertFalse(free - BUILTINS, name)
            words = free | bound | locals_here | {node.attr for node in nodes(tree, ast.Attribute)}
            self.assertFalse(words & BARRED, name)

    def test_methods(self):
        everything = trees()
        own = {item.name for tree in everything.values() for node in nodes(tree, ast.ClassDef)
               for item in node.body if isinstance(item, ast.FunctionDef)}
        for name, tree in everything.items():
            called = {node.func.attr for node in nodes(tree, ast.Call) if isinstance(node.func, ast.Attribute)}
            self.assertFalse(called - own - METHODS, name)

    def test_statements_and_values(self):
        for name, tree in trees().items():
            self.assertEqual(nodes(tree, *NODES), [], name)
            for node in nodes(tree, ast.Constant):
                self.assertIsInstance(node.value, (int, str, type(None)), name)
                if isinstance(node.value, str):
                    self.assertNotIn("%", node.value)
            for node in nodes(tree, ast.Raise):
                self.assertIsInstance(node.exc, ast.Call)
            for node in nodes(tree, ast.ExceptHandler):
                self.assertRegex(ast.unparse(node.type), r"^(Malformed|OutOfRange|Refused|UsedUp|PowerLost|KeyError)$")

    def test_barred_names(self):
        """Names that the rule for plain names keeps for others."""
        begin = r"_(wall|pe_|dcw_|enum_|cm_|twin_re_|lay_|law_|stub_|sre)"
        whole = r"_(cold|tuplegetter|outside|record|written_out|member_names)[0-9_]*"
        for name, tree in trees().items():
            words = {node.id for node in nodes(tree, ast.Name)} | {node.attr for node in nodes(tree, ast.Attribute)}
            words |= {node.name for node in nodes(tree, ast.FunctionDef, ast.ClassDef)} | set(local_names(tree))
            for word in words:
                self.assertIsNone(re.match(begin, word) or re.fullmatch(whole, word), (name, word))

    def test_words(self):
        for name in files():
            code = re.sub(r'"""[^"]*"""|#.*', "", text_of(name))
            self.assertFalse(set(re.findall(r"[A-Za-z_]+", code)) & {"type", "typing", "enum", "_wall"}, name)
