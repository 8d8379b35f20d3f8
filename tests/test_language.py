"""The package keeps to those rules of its Python subset that a short look at its code can check."""

import ast
import builtins
import importlib
import inspect
import io
import re
import tokenize
import unittest
import warnings
from pathlib import Path

ROOT = Path(__file__).resolve().parent.parent / "mailtide"

LIBRARY = {
    "heapq": {"heappush", "heappop", "heapify", "heapreplace", "heappushpop"},
    "math": {"gcd", "lcm", "isqrt", "comb", "perm", "factorial"},
    "itertools": {"product", "combinations", "permutations"},
}

BUILTINS = set(
    "len range enumerate zip min max sum abs sorted reversed int str bool bytes list tuple dict set frozenset isinstance ord "
    "repr any all divmod iter next map super property staticmethod classmethod True False None Exception ValueError "
    "TypeError KeyError IndexError LookupError ZeroDivisionError ArithmeticError OverflowError RuntimeError "
    "NotImplementedError AttributeError StopIteration NotImplemented".split()
)

METHODS = set(
    "append clear copy count endswith extend find get index insert isalnum isalpha isdigit islower isspace isupper items "
    "join keys ljust lower lstrip partition pop remove replace reverse rfind rjust rpartition rsplit rstrip setdefault "
    "split splitlines startswith strip update upper values zfill bit_length title capitalize swapcase casefold center "
    "expandtabs removeprefix removesuffix rindex isascii isdecimal isnumeric istitle isidentifier isprintable add discard "
    "translate encode decode __init__".split()
)

# Doctest puts `_` there, too.
BUILTIN_NAMES = set(dir(builtins)) - {"_"}

BARRED_NAMES = set(
    "register mro elements open input law version_info with_traceback add_note attrgetter breakpoint builtins compile "
    "copyright credits delattr dir eval exec exit gc getattr globals hasattr help id importlib license locals methodcaller "
    "os quit setattr type vars sys".split()
)

BARRED_WORDS = set(
    "type typing typing_extensions enum Enum IntEnum StrEnum Flag IntFlag Generic Protocol ABC ABCMeta namedtuple NamedTuple "
    "TypedDict TYPE_CHECKING abstractmethod dataclass overload contextmanager".split()
)

BARRED_NODES = (
    ast.Global, ast.AsyncFunctionDef, ast.AsyncFor, ast.AsyncWith, ast.Await, ast.Div, ast.MatMult, ast.GeneratorExp, ast.Import,
)

# The interface of the document, as far as its modules are there.
INTERFACE = {
    "errors": "TideError BadSet BadFolder BadNumber BadSigns BadDeed BadNotice BadRow BadCopy BadKey BadText BadValue TooLarge",
    "sets": "meant shortest count_shortest plain_set parting",
    "folders": "Folder copied moved",
    "histories": "played",
    "since": "view_of view_at followed next_numbers answer answer_for is_answer spoils spoiler",
    "views": "applied Session",
    "sure": "sure_mark",
    "flight": "played finds turned by_number doubt",
    "copies": "Copy copy_of stepped run least_row end_of order_for ends",
    "guarded": "unless wished plain_end guarded_end serial lost harmful most_tries worst_row",
    "breaks": "contents behind good again answer plan least_questions doubt",
    "costs": "worst_case least_probes least_rounds best_paper curve asked_rounds way_lines way_cost cheapest",
    "alike": "between surely ways most_at_once fewest_at_once",
    "search": "sought Kept plain_key parted folder_of is_opposite is_within",
    "lines": "line_of thing_of heard",
    "judge": "placings first_placing wrong_line sure_marks transcript",
    "world": "World",
    "pictures": "picture",
}

# The parameters of the functions and classes, as the document names them.
PARAMETERS = {
    "sets": "meant(text, there) shortest(some, there) count_shortest(some, there) plain_set(some) parting(text, other)",
    "folders": "Folder(age) copied(one, other, numbers) moved(one, other, numbers)",
    "histories": "played(folder, history)",
    "since": "view_of(folder) view_at(age, history, mark) followed(view, answer) next_numbers(folder, mark) "
             "answer(folder, mark) answer_for(folder, mark, numbers) is_answer(folder, mark, value) "
             "spoils(folder, mark, value, history) spoiler(folder, mark, value)",
    "views": "applied(entries, notices) Session(folder)",
    "sure": "sure_mark(entries, mark, upcoming, notices)",
    "flight": "played(n, row, loose, k, fate) finds(n, row, loose, k) turned(n, wishes) "
              "by_number(n, wishes, loose, k) doubt(n, row, loose, k)",
    "copies": "Copy(age, mark, letters, made=()) copy_of(folder) stepped(copy, folder) run(copies, folder, row) "
              "least_row(copies, folder) end_of(copies, folder, order) order_for(copies, folder, wanted) ends(copies, folder)",
    "guarded": "unless(folder, numbers, mark, deed) wished(signs, wish) plain_end(signs, wishes, row) "
               "guarded_end(signs, wishes, row) serial(signs, wishes, order) lost(signs, wishes) harmful(one, other) "
               "most_tries(signs, wishes) worst_row(signs, wishes)",
    "breaks": "contents(folder) behind(folder, row, p) good(folder, row, acts=()) again(folder, command, acts=()) "
              "answer(folder, question) plan(folder, row, questions, acts=()) "
              "least_questions(folder, row, offers, acts=()) doubt(folder, row, questions, acts=())",
    "costs": "worst_case(paper, many, there) least_probes(many, there, *, rounds=None) least_rounds(many, there) "
             "best_paper(many, there) curve(many, there) asked_rounds(paper, pattern) "
             "way_lines(way, folder, known, mark) way_cost(way, folder, known, mark) cheapest(folder, known, mark)",
    "alike": "between(one, other) surely(one, other) ways(one, other, s) most_at_once(one, other) fewest_at_once(one, other)",
    "search": "sought(key, folder) Kept(key, folder) plain_key(key) parted(key, other) folder_of(letters) "
              "is_opposite(key, other) is_within(key, other)",
    "lines": "line_of(thing) thing_of(line) heard(entries, lines)",
    "judge": "placings(folder, lines, deeds) first_placing(folder, lines, deeds) wrong_line(folder, lines, deeds) "
             "sure_marks(folder, lines) transcript(folder, moves)",
    "world": "World(names, clients)",
    "pictures": "picture(world)",
}

# The methods of the classes, as the document names them; each is defined in the class itself.
METHODS_OF = {
    "folders.Folder": "age() letters() next_number() mark() gone() cut() appended(body, signs) added(numbers, sign) "
                      "taken(numbers, sign) set_to(numbers, signs) removed(numbers) trimmed(mark)",
    "views.Session": "see(folder) told() answer() tell(notices, is_ask)",
    "copies.Copy": "age() mark() letters() made() wanting(number, signs) dropping(number) making(body, signs)",
    "search.Kept": "numbers() follow(folder)",
    "world.World": "folder(name) copy(client, name) act(name, deed) remake(name) swap(name, other) fetch(client, name) "
                   "want(client, name, number, signs) drop(client, name, number) make(client, name, body, signs) "
                   "breaks(client, name, p) step(client, name) least_steps() settle() doubled(client, name, p) safe_trim(name)",
}


def files():
    return sorted(path for path in ROOT.rglob("*") if path.is_file() and "__pycache__" not in path.parts)


def trees():
    return [(path.name, ast.parse(path.read_text())) for path in files()]


def nodes(kind):
    return [(name, node) for name, tree in trees() for node in ast.walk(tree) if isinstance(node, kind)]


class Language(unittest.TestCase):

    def test_files_and_sizes(self):
        for path in files():
            text = path.read_text()
            self.assertRegex(path.name, r"^[a-z0-9_]+\.py$")
            self.assertRegex(text, r"^[ -~\n]*$", path.name)
            self.assertLessEqual(len(text.splitlines()), 399, path.name)
            self.assertLessEqual(max(map(len, text.splitlines())), 120, path.name)
        for name, node in nodes(ast.FunctionDef):
            self.assertLessEqual(node.end_lineno - node.lineno + 1, 40, (name, node.name))

    def test_no_warnings(self):
        with warnings.catch_warnings():
            warnings.simplefilter("error")
            for path in files():
                compile(path.read_text(), path.name, "exec")

    def test_module_level(self):
        allowed = (ast.ImportFrom, ast.FunctionDef, ast.ClassDef)
        for name, tree in trees():
            self.assertIsNotNone(ast.get_docstring(tree), name)
            for node in tree.body[1:]:
                if isinstance(node, ast.Assign):
                    self.assertEqual([len(node.targets), isinstance(node.targets[0], ast.Name)], [1, True], name)
                    ast.literal_eval(node.value)
                else:
                    self.assertIsInstance(node, allowed, name)

    def test_imports(self):
        for name, node in nodes(ast.ImportFrom):
            for alias in node.names:
                own = node.module.startswith("mailtide.") and node.level == 0 and alias.name != "*"
                self.assertTrue(own or alias.name in LIBRARY.get(node.module, ()), (name, node.module))

    def test_barred_nodes(self):
        for name, node in nodes(BARRED_NODES):
            self.fail((name, node))
        for name, node in nodes(ast.Constant):
            self.assertNotIsInstance(node.value, (float, complex), name)
        for name, node in nodes(ast.BinOp):
            if isinstance(node.op, ast.Pow):
                self.assertIsInstance(node.right, ast.Constant, name)
        for name, node in nodes((ast.FunctionDef, ast.ClassDef)):
            self.assertEqual(node.decorator_list, [], (name, node.name))

    def test_names(self):
        for name, node in nodes((ast.Name, ast.arg, ast.FunctionDef, ast.ClassDef, ast.alias)):
            word = getattr(node, "id", None) or getattr(node, "arg", None) or node.name
            self.assertNotIn(word, BARRED_NAMES, name)
            if word in BUILTIN_NAMES:
                is_read = isinstance(node, ast.Name) and isinstance(node.ctx, ast.Load)
                self.assertTrue(is_read and word in BUILTINS, (name, word))

    def test_methods(self):
        own = {node.name for _, node in nodes(ast.FunctionDef)}
        for name, node in nodes(ast.Call):
            if isinstance(node.func, ast.Attribute):
                self.assertIn(node.func.attr, METHODS | own, name)

    def test_words_outside_comments_and_docstrings(self):
        for path in files():
            rows = tokenize.generate_tokens(io.StringIO(path.read_text()).readline)
            for token in rows:
                is_docstring = token.string.startswith('"""')
                if token.type != tokenize.COMMENT and not is_docstring:
                    for word in re.findall(r"\w+", token.string):
                        self.assertNotIn(word, BARRED_WORDS, path.name)
                if token.type == tokenize.STRING:
                    self.assertNotIn("%", token.string, path.name)

    def test_interface_is_defined_in_its_files(self):
        for module, names in INTERFACE.items():
            tree = ast.parse((ROOT / f"{module}.py").read_text())
            defined = {node.name for node in tree.body if isinstance(node, (ast.FunctionDef, ast.ClassDef))}
            self.assertLessEqual(set(names.split()), defined, module)

    def test_parameters_are_named_as_in_the_document(self):
        for module, rows in PARAMETERS.items():
            for name, parameters in re.findall(r"(\w+)(\([^)]*\)?\))", rows):
                thing = getattr(importlib.import_module(f"mailtide.{module}"), name)
                self.assertEqual(str(inspect.signature(thing)), parameters, (module, name))

    def test_methods_are_defined_in_their_classes(self):
        for place, rows in METHODS_OF.items():
            module, name = place.split(".")
            own = vars(getattr(importlib.import_module(f"mailtide.{module}"), name))
            for method, parameters in re.findall(r"(\w+)\(([^)]*)\)", rows):
                expected = ", ".join(["self", parameters] if parameters else ["self"])
                self.assertEqual(str(inspect.signature(own[method])), f"({expected})", (place, method))

    def test_no_local_name_is_that_of_a_class_or_an_import(self):
        for name, tree in trees():
            taken = {node.name for node in tree.body if isinstance(node, ast.ClassDef)}
            taken |= {alias.name for node in tree.body if isinstance(node, ast.ImportFrom) for alias in node.names}
            for node in ast.walk(tree):
                if isinstance(node, ast.arg):
                    self.assertNotIn(node.arg, taken, name)
                if isinstance(node, ast.Name) and isinstance(node.ctx, ast.Store):
                    self.assertNotIn(node.id, taken, name)

    def test_no_name_is_a_method_and_an_attribute(self):
        stored = {node.attr for _, node in nodes(ast.Attribute) if isinstance(node.ctx, ast.Store)}
        own = {part.name for _, node in nodes(ast.ClassDef) for part in node.body if isinstance(part, ast.FunctionDef)}
        self.assertFalse(stored & own)

    def test_nothing_is_imported_in_a_circle(self):
        ahead = {name: set() for name, _ in trees()}
        for name, node in nodes(ast.ImportFrom):
            if node.module.startswith("mailtide."):
                ahead[name].add(node.module.split(".")[1] + ".py")
        while ahead:
            free = [name for name in ahead if not ahead[name] & set(ahead)]
            self.assertTrue(free, ahead)
            for name in free:
                del ahead[name]

    def test_imports_are_used(self):
        for name, tree in trees():
            imported = {alias.name for node in tree.body if isinstance(node, ast.ImportFrom) for alias in node.names}
            read = {node.id for node in ast.walk(tree) if isinstance(node, ast.Name) and isinstance(node.ctx, ast.Load)}
            self.assertLessEqual(imported, read, name)
            self.assertNotIn("_", read, name)


if __name__ == "__main__":
    unittest.main()
