"""Points 1 to 5 over the whole program, and the interface: every name, its arguments and all examples."""

import ast
import copy
import importlib
import inspect
import pathlib
import unittest

from by_hand import FIELD, FORM, MARK, MAYBE, NUMBERS, PLAIN_OBJECTS
from forms_by_hand import BAD_TEXTS, FREE, ONE, TWO
from townlines import errors
from townlines.books import Book
from townlines.compare import beyond, both, is_within_certificate, parted, within_certificate
from townlines.completions import told_so_far
from townlines.counts import all_texts, number_of, records, text_at, texts
from townlines.errors import BadNumber, BadText, Missing, NoReading, NotSingle, NotWithin, TooLarge, TooMany, TooWide
from townlines.errors import TownError, Unknown
from townlines.fitting import fitted
from townlines.forms import Form
from townlines.items import Field, Mark, Maybe
from townlines.kinds import Kind
from townlines.marks import fewest_marks, is_marks_certificate, marks_certificate, parted_by, told_apart
from townlines.mending import is_slips_certificate, mended, slips, slips_certificate
from townlines.readings import count_readings, only_reading, owners, readings, sure
from townlines.signs import Signs
from townlines.verdicts import certificate, is_certificate, is_twice, sure_names, twice, unsure
from townlines.walks import completion, ends, least_text, next_signs, reads

PACKAGE = pathlib.Path(__file__).resolve().parent.parent / "townlines"

FUNCTIONS = {
    "walks": {"reads": "form text", "ends": "form text", "next_signs": "form text", "completion": "form text",
              "least_text": "form"},
    "readings": {"count_readings": "form text", "readings": "form text * most=100", "only_reading": "form text",
                 "owners": "form text", "sure": "form text"},
    "counts": {"texts": "form length", "records": "form length", "text_at": "form number", "number_of": "form text",
               "all_texts": "form longest"},
    "verdicts": {"twice": "form", "is_twice": "form thing", "unsure": "form name", "sure_names": "form", "certificate": "form",
                 "is_certificate": "form thing"},
    "marks": {"told_apart": "form first second", "parted_by": "form names", "fewest_marks": "form", "marks_certificate": "form",
              "is_marks_certificate": "form thing"},
    "compare": {"both": "one other", "beyond": "one other", "parted": "one other", "within_certificate": "one other",
                "is_within_certificate": "one other thing"},
    "mending": {"slips": "form text", "mended": "form text", "slips_certificate": "form text",
                "is_slips_certificate": "form text thing"},
    "fitting": {"fitted": "form record width shorter"},
    "completions": {"told_so_far": "form text"},
}
CLASSES = {
    "signs": {"Signs": {"__init__": "self text=''", "span": "first last", "letters": "", "capitals": "", "digits": "",
                        "within": "self other", "least": "self", "spelled": "self"}},
    "kinds": {"Kind": {"run": "signs least=1 most=1", "words": "texts", "alternatives": "self", "least": "self",
                       "count_words": "self length"}},
    "items": {"Field": {"__init__": "self name kind"}, "Mark": {"__init__": "self text"}, "Maybe": {"__init__": "self parts"}},
    "forms": {"Form": {"__init__": "self lines", "parse": "text kinds", "names": "self", "with_mark": "self name text",
                       "without": "self name", "write": "self record", "owner_row": "self record", "spans": "self record",
                       "spelled": "self", "places": "self", "firsts": "self", "lasts": "self", "after": "self place"}},
    "books": {"Book": {"__init__": "self forms=None * most=100", "names": "self", "drop": "self name", "copy": "self",
                       "set_most": "self number", "read": "self text", "twice": "self", "single": "self",
                       "keep_single": "self deed"}},
}
OPERATORS = {
    "Signs": "__or__ __ror__ __ior__ __and__ __rand__ __sub__ __rsub__ __invert__ __eq__ __contains__ __len__ __bool__",
    "Kind": "__add__ __or__ __mul__ __rmul__ __eq__ __contains__ has_empty",
    "Field": "__eq__", "Mark": "__eq__", "Maybe": "__eq__", "Form": "__eq__ __add__ may_be_empty",
    "Book": "__setitem__ __getitem__ __contains__ __len__ __eq__ __ior__ most",
}
PLAIN_ERRORS = ["BadSigns", "BadText", "BadKind", "NoReading", "TooMany", "TooLarge"]
ERRORS = {"BadItem": "at", "BadForm": "at", "BadName": "name", "Unknown": "name", "Missing": "name", "BadValue": "name",
          "NotSingle": "text", "NotWithin": "text", "NoForm": "name", "BadNumber": "number", "TooWide": "line",
          "BadShort": "name"}


def example():
    return Form.parse("{a}{b}[{c}]", {"a": Kind.run("xy", 1, 2), "b": Kind.run("y", 1, 2), "c": Kind.words(["z"])})


def one_form():
    return Form.parse("{a}", {"a": Kind.run("ab", 1, 2)})


def other_form():
    return Form.parse("b[{c}]", {"c": Kind.words(["a"])})


def spelled_arguments(function):
    words = []
    for name, parameter in inspect.signature(function).parameters.items():
        if parameter.kind is inspect.Parameter.KEYWORD_ONLY and "*" not in words:
            words.append("*")
        words.append(name if parameter.default is inspect.Parameter.empty else f"{name}={parameter.default!r}")
    return " ".join(words)


class Names(unittest.TestCase):
    def defined(self, module, kind):
        tree = ast.parse((PACKAGE / (module + ".py")).read_text(encoding="utf-8"))
        return {node.name: node for node in tree.body if isinstance(node, kind)}

    def test_functions(self):
        for module, names in FUNCTIONS.items():
            here = self.defined(module, ast.FunctionDef)
            for name, arguments in names.items():
                self.assertIn(name, here)
                self.assertEqual(spelled_arguments(getattr(importlib.import_module("townlines." + module), name)), arguments)

    def test_classes(self):
        for module, classes in CLASSES.items():
            here = self.defined(module, ast.ClassDef)
            for name, methods in classes.items():
                own = {node.name for node in here[name].body if isinstance(node, ast.FunctionDef)}
                made = getattr(importlib.import_module("townlines." + module), name)
                for method, arguments in methods.items():
                    self.assertIn(method, own)
                    self.assertEqual(spelled_arguments(getattr(made, method)), arguments)
                self.assertLessEqual(set(OPERATORS[name].split()), own)

    def test_static_methods_and_properties(self):
        for made, names in [(Signs, ["span", "letters", "capitals", "digits"]), (Kind, ["run", "words"]), (Form, ["parse"])]:
            for name in names:
                self.assertIsInstance(vars(made)[name], staticmethod)
        for made, name in [(Kind, "has_empty"), (Form, "may_be_empty"), (Book, "most")]:
            self.assertIsInstance(vars(made)[name], property)

    def test_errors(self):
        here = self.defined("errors", ast.ClassDef)
        self.assertEqual(set(here), {"TownError", *PLAIN_ERRORS, *ERRORS})
        self.assertEqual(TownError.__bases__, (ValueError,))
        for name in [*PLAIN_ERRORS, *ERRORS]:
            self.assertEqual(getattr(errors, name).__bases__, (TownError,))
        for name in PLAIN_ERRORS:
            self.assertIsInstance(getattr(errors, name)(), TownError)
        for name, attribute in ERRORS.items():
            for thing in [*PLAIN_OBJECTS, *NUMBERS, "a", Book()]:
                for made in [getattr(errors, name)(thing), getattr(errors, name)(**{attribute: thing})]:
                    self.assertIs(getattr(made, attribute), thing)

    def test_the_package_has_no_state(self):
        """Names at the top of a file are bound once, to plain values."""
        for path in PACKAGE.glob("*.py"):
            for node in ast.parse(path.read_text(encoding="utf-8")).body:
                if isinstance(node, ast.Assign):
                    ast.literal_eval(node.value)
                else:
                    self.assertIsInstance(node, (ast.FunctionDef, ast.ClassDef, ast.ImportFrom, ast.Expr))


def text_functions():
    """The sixteen functions that take a text, as functions of a form and a text; the other arguments are wrong ones."""
    book = Book({"a": one_form(), "b": one_form(), "c": one_form()}, most=1)
    return [reads, ends, next_signs, completion, count_readings, lambda form, text: readings(form, text, most=None),
            only_reading, owners, sure, number_of, lambda form, text: book.read(text), slips, mended, slips_certificate,
            lambda form, text: is_slips_certificate(form, text, None), told_so_far]


class Texts(unittest.TestCase):
    def test_what_no_text_is(self):
        forms = [one_form(), example(), Form([[Mark("a")]]), Form([[Maybe([Field("a", ONE)])]]),
                 Form([[Field("a", Kind.run("xy", 0, None) + Kind.run("x") + Kind.run("xy", 14, 14))]])]
        things = [*BAD_TEXTS, *PLAIN_OBJECTS, *NUMBERS, Signs("a"), Book(), "%" * 401, "a" * 402, "\r", "\x0b", "a\x85", "\ud800"]
        self.assertEqual(len(text_functions()), 16)
        for function in text_functions():
            for form in forms:
                for thing in things:
                    with self.assertRaises(BadText):
                        function(form, thing)

    def test_400_characters_and_one_more(self):
        form = Form([[Field("a", FREE)], [Maybe([Field("b", FREE)])]])
        for text in ["a" * 400, "a" * 200 + "\n" + "b" * 199]:
            for function in text_functions():
                for _ in range(2):
                    try:
                        function(form, text)
                    except (BadNumber, TooLarge, TooMany):
                        pass
                    with self.assertRaises(BadText):
                        function(form, text + "a")
            self.assertIs(reads(form, text), True)
            self.assertEqual(slips(form, text), 0)

    def test_asked_again_after_a_refusal(self):
        form = one_form()
        book = Book({"a": form})
        for thing in ["%", None, "a" * 401]:
            for function in text_functions():
                with self.assertRaises(BadText):
                    function(form, thing)
            with self.assertRaises(BadText):
                book.read(thing)
            self.assertEqual([reads(form, "ab"), ends(form, "ab"), completion(form, ""), count_readings(form, "ab")],
                             [True, [1], "a", 1])
            self.assertEqual([readings(form, "ab"), number_of(form, "ab"), book.read("ab"), mended(form, "abc")],
                             [[{"a": "ab"}], 3, [("a", {"a": "ab"})], (1, "ab")])
            self.assertEqual([told_so_far(form, "ab"), sure(form, "ab"), owners(form, "ab")],
                             [{"a": "ab"}, {"a": "ab"}, [["a"], ["a"]]])

    def test_strings_of_all_characters(self):
        form = Form([[Field("a", Kind.run(~Signs(), 1, None))], [Maybe([Field("b", Kind.run(~Signs(), 1, None))])]])
        for code in range(0, 300):
            char = chr(code)
            if code == 10 or (32 <= code < 127 and code != 37):
                self.assertIs(reads(form, "a" + char + "a"), True)
                self.assertEqual(slips(form, "a" + char + "a"), 0)
            else:
                for function in text_functions():
                    with self.assertRaises(BadText):
                        function(form, "a" + char + "a")


def all_calls():
    """Rows (function, arguments by names in their order), one or more for each function of the interface."""
    form, one, other = example(), one_form(), other_form()
    single = Form.parse("-[{c}]", {"c": Kind.run("z", 1, None)})
    first, second = {"a": "xy", "b": "y"}, {"a": "x", "b": "yy"}
    road = Form.parse("{road} {house}", {"road": Kind.run(Signs.letters() | " ", 1, None), "house": Kind.run("7")})
    return [
        (reads, {"form": form, "text": "xyy"}), (ends, {"form": form, "text": "xyy"}), (next_signs, {"form": form, "text": "x"}),
        (completion, {"form": form, "text": "y"}), (least_text, {"form": form}), (count_readings, {"form": form, "text": "xyy"}),
        (readings, {"form": form, "text": "xyy"}), (only_reading, {"form": form, "text": "xyyy"}),
        (owners, {"form": form, "text": "xyy"}), (sure, {"form": form, "text": "xyyz"}), (texts, {"form": form, "length": 4}),
        (records, {"form": form, "length": 4}), (text_at, {"form": form, "number": 3}),
        (number_of, {"form": form, "text": "xyy"}), (twice, {"form": form}),
        (is_twice, {"form": form, "thing": ("xyy", first, second)}), (unsure, {"form": form, "name": "a"}),
        (sure_names, {"form": form}), (certificate, {"form": single}),
        (is_certificate, {"form": single, "thing": ([(-1, -1), (0, 0), (1, 1)], [])}),
        (told_apart, {"form": form, "first": first, "second": second}), (parted_by, {"form": form, "names": ["c", "a"]}),
        (fewest_marks, {"form": form}), (marks_certificate, {"form": form}),
        (is_marks_certificate, {"form": form, "thing": (["b"], [("xyy", first, second)])}), (both, {"one": one, "other": other}),
        (beyond, {"one": one, "other": other}), (parted, {"one": one, "other": other}),
        (within_certificate, {"one": other, "other": one}),
        (is_within_certificate, {"one": other, "other": one, "thing": [(-1, [-1]), (0, [0]), (1, [1])]}),
        (slips, {"form": other, "text": "xbx"}), (mended, {"form": other, "text": "xbx"}),
        (slips_certificate, {"form": other, "text": "x"}),
        (is_slips_certificate, {"form": other, "text": "x", "thing": (1, [[0, 1, 2], [1, 1, 2]])}),
        (fitted, {"form": road, "record": {"road": "long street", "house": "7"}, "width": 10,
                  "shorter": {"road": {"street": "st", "long": "lg"}}}),
        (told_so_far, {"form": form, "text": "xyyz"}),
        (form.with_mark, {"name": "a", "text": "-"}), (form.without, {"name": "a"}), (form.write, {"record": first}),
        (form.owner_row, {"record": first}), (form.spans, {"record": first}), (form.after, {"place": 0}),
        (Form, {"lines": [[FIELD, MARK]]}), (Form.parse, {"text": "{a}", "kinds": {"a": ONE}}),
        (Field, {"name": "a", "kind": ONE}), (Mark, {"text": "a"}), (Maybe, {"parts": [FIELD]}),
        (Kind.run, {"signs": "ab", "least": 0, "most": None}), (Kind.words, {"texts": ["a", "b"]}),
        (ONE.count_words, {"length": 1}), (Signs, {"text": "ab"}), (Signs.span, {"first": "a", "last": "c"}),
        (Signs("a").within, {"other": "ab"}),
        (Book({"a": one, "b": other}).read, {"text": "ba"}), (Book({"a": one, "b": other}, most=9).copy, {}),
        (Book({"a": one, "b": other}).twice, {}), (Book({"a": one, "b": other}).names, {}), (Book, {"forms": {"a": one}}),
        (Book({"a": one}).keep_single, {"deed": lambda book: book.names()}),
        (form.names, {}), (form.places, {}), (form.firsts, {}), (form.lasts, {}),
    ]


def spoil(thing):
    """Change all lists and dicts within a value that was returned."""
    if isinstance(thing, (list, tuple)):
        for part in thing:
            spoil(part)
    if isinstance(thing, dict):
        for part in list(thing.values()):
            spoil(part)
        thing["spoilt"] = None
    if isinstance(thing, list):
        thing.append("spoilt")
        thing.reverse()


class Calls(unittest.TestCase):
    def test_all_functions_are_called(self):
        called = {function.__name__ for function, _ in all_calls() if inspect.isfunction(function)}
        listed = {name for names in FUNCTIONS.values() for name in names}
        self.assertEqual(listed - called, {"all_texts"})

    def test_by_position_and_by_names(self):
        for function, arguments in all_calls():
            expected = function(*arguments.values())
            self.assertEqual(function(**arguments), expected, function)
            self.assertEqual(function(**dict(reversed(list(arguments.items())))), expected, function)
        self.assertEqual(list(all_texts(longest=2, form=one_form())), list(all_texts(one_form(), 2)))
        self.assertEqual(readings(most=2, text="xyy", form=example()), readings(example(), "xyy", most=2))

    def test_what_is_passed_stays(self):
        for function, arguments in all_calls():
            before = {name: copy.deepcopy(value) for name, value in arguments.items() if name != "deed"}
            function(**arguments)
            for name, value in before.items():
                self.assertEqual(arguments[name], value, (function, name))

    def test_what_is_returned_is_new(self):
        for function, arguments in all_calls():
            expected = copy.deepcopy(function(**arguments))
            spoil(function(**arguments))
            self.assertEqual(function(**arguments), expected, function)
            first, second = function(**arguments), function(**arguments)
            spoil(first)
            self.assertEqual(second, expected, function)

    def test_all_lists_within_a_value_are_different_ones(self):
        for function, arguments in all_calls():
            found = []

            def collect(thing):
                if isinstance(thing, (list, dict)):
                    found.append(thing)
                if isinstance(thing, (list, tuple)):
                    for part in thing:
                        collect(part)

            collect(function(**arguments))
            self.assertEqual(len({id(thing) for thing in found}), len(found), function)

    def test_later_changes_of_arguments(self):
        lines, parts, words = [[FIELD, MARK]], [FIELD], ["a", "b"]
        form, group, kind = Form(lines), Maybe(parts), Kind.words(words)
        names, pairs = marks_certificate(example())
        spoil(lines)
        parts.clear()
        words.append("c")
        self.assertEqual([form, group, kind], [Form([[FIELD, MARK]]), Maybe([FIELD]), Kind.words(["a", "b"])])
        kinds = {"a": ONE}
        form = Form.parse("{a}", kinds)
        kinds["a"] = TWO
        self.assertEqual(form, Form([[Field("a", ONE)]]))

    def test_what_equals_what(self):
        things = [Signs("a"), ONE, FIELD, MARK, MAYBE, FORM, Book(), Book({"a": FORM})]
        for at, one in enumerate(things):
            for index, other in enumerate(things):
                self.assertIs(one == other, at == index)
                self.assertIs(one != other, at != index)
            for other in [None, True, 0, "a", "", [], ["a"], {}, {"a": 1}, (), TownError()]:
                self.assertIs(one == other, False)
                self.assertIs(other == one, False)

    def test_objects_stay_as_they_are(self):
        form = example()
        spelling, places = form.spelled(), form.places()
        after = [form.after(place) for place in range(-1, len(places))]
        for call in [twice, sure_names, fewest_marks, marks_certificate, lambda form: unsure(form, "a"),
                     lambda form: parted(form, one_form()), lambda form: beyond(one_form(), form),
                     lambda form: mended(form, "xx"), lambda form: list(all_texts(form, 4)),
                     lambda form: Book({"a": form}).twice(), lambda form: texts(form, 4)]:
            call(form)
            self.assertEqual([form.spelled(), form.places(), [form.after(place) for place in range(-1, len(places))]],
                             [spelling, places, after])
            self.assertEqual(form, example())


class Examples(unittest.TestCase):
    def raised(self, error, call):
        with self.assertRaises(error) as caught:
            call()
        return caught.exception

    def test_signs_and_kinds(self):
        self.assertEqual((Signs("cab") | "d" - Signs("e")).spelled(), "abcd")
        kind = Kind.run("ab", 0, 1) + 2 * Kind.run("b") | Kind.words(["bb", "a"])
        self.assertEqual(kind.alternatives(), ((("ab", 0, 1), ("b", 1, 1), ("b", 1, 1)), (("b", 1, 1), ("b", 1, 1)),
                                               (("a", 1, 1),)))
        self.assertEqual([kind.count_words(0), kind.count_words(2), kind.count_words(3)], [0, 1, 2])

    def test_forms(self):
        town = Kind.run(Signs.letters(), 1, None)
        form = Form.parse("{road}[ {house}]\nto {town}",
                          {"road": town, "house": Kind.run(Signs.digits(), 1, 3), "town": town})
        self.assertEqual(form.write({"town": "ulm", "road": "weg", "house": "7"}), "weg 7\nto ulm")
        self.assertEqual(form.owner_row({"town": "ulm", "road": "a"}), ["road", "", "", "", "", "town", "town", "town"])
        self.assertEqual(self.raised(Missing, lambda: form.write({"house": "7", "town": "ulm"})).name, "road")
        self.assertEqual([form.firsts(), form.after(0), form.after(2), form.lasts()], [[0], [0, 1, 5], [3, 5], [9]])

    def test_readings_and_verdicts(self):
        form = example()
        self.assertEqual(readings(form, "xyyz"), [{"a": "xy", "b": "y", "c": "z"}, {"a": "x", "b": "yy", "c": "z"}])
        self.assertEqual(owners(form, "xyyz"), [["a"], ["a", "b"], ["b"], ["c"]])
        self.assertEqual(sure(form, "xyyz"), {"c": "z"})
        self.assertEqual(twice(form), ("xyy", {"a": "xy", "b": "y"}, {"a": "x", "b": "yy"}))
        self.assertEqual([unsure(form, "a") == twice(form), unsure(form, "c") is None, sure_names(form)], [True, True, ["c"]])
        self.assertEqual(certificate(Form.parse("-[{c}]", {"c": Kind.run("z", 1, None)})), ([(-1, -1), (0, 0), (1, 1)], []))
        self.assertEqual(self.raised(NotSingle, lambda: certificate(form)).text, "xyy")

    def test_marks(self):
        form = example()
        self.assertEqual(told_apart(form, {"a": "xy", "b": "y"}, {"a": "x", "b": "yy", "c": "z"}), ["b", "c"])
        self.assertEqual(parted_by(form, ["c", "a"]), ("xyy", {"a": "xy", "b": "y"}, {"a": "x", "b": "yy"}))
        self.assertEqual(fewest_marks(form), ["b"])

    def test_compare(self):
        one, other = one_form(), other_form()
        self.assertEqual([both(one, other), beyond(one, other), beyond(other, one)], ["b", "a", None])
        self.assertEqual(parted(one, other), ("a", ["a"]))
        self.assertEqual(within_certificate(other, one), [(-1, [-1]), (0, [0]), (1, [1])])
        self.assertEqual(self.raised(NotWithin, lambda: within_certificate(one, other)).text, "a")

    def test_books(self):
        book = Book({"borea": other_form(), "alba": one_form()})
        self.assertEqual(book.read("ba"), [("alba", {"a": "ba"}), ("borea", {"c": "a"})])
        self.assertEqual(book.twice(), ("b", ("alba", {"a": "b"}), ("borea", {})))
        self.assertIs(book.keep_single(lambda held: held.drop("alba")), None)
        self.assertEqual(book.names(), ["borea"])

    def test_mending_fitting_and_completions(self):
        self.assertEqual(mended(other_form(), "xbx"), (2, "b"))
        self.assertEqual(slips_certificate(other_form(), "x"), (1, [[0, 1, 2], [1, 1, 2]]))
        form = Form.parse("{road} {house}", {"road": Kind.run(Signs.letters() | " ", 1, None),
                                             "house": Kind.run(Signs.digits(), 1, 3)})
        record = {"road": "long street", "house": "7"}
        short = {"road": {"street": "st", "long": "lg"}}
        self.assertEqual(fitted(form, record, 10, short), {"road": "long st", "house": "7"})
        self.assertEqual(self.raised(TooWide, lambda: fitted(form, record, 6, short)).line, 0)
        form = Form.parse("{a}-{b}", {"a": Kind.run("xy", 1, None), "b": Kind.run("xy", 1, None)})
        self.assertEqual([told_so_far(form, "x-y"), told_so_far(form, "x")], [{"a": "x"}, {}])


class VeryObjects(unittest.TestCase):
    """The attribute of an error holds the very object that was passed in."""

    def check(self, error, call, attribute, thing):
        with self.assertRaises(error) as caught:
            call(thing)
        self.assertIs(getattr(caught.exception, attribute), thing)

    def test_they_are_held(self):
        form, book = example(), Book()
        for thing in [*PLAIN_OBJECTS, 10 ** 40, -(10 ** 20), "".join(["un", "known"])]:
            for call in [lambda name: unsure(form, name), lambda name: parted_by(form, ["a", name]),
                         lambda name: form.with_mark(name, "-"), form.without, book.drop, lambda name: book[name]]:
                self.check(Unknown, call, "name", thing)
            for call in [form.after, lambda number: texts(form, number), lambda number: records(form, number), book.set_most,
                         lambda number: next(all_texts(form, number)), lambda number: Book(most=number),
                         lambda number: readings(form, "a", most=number),
                         lambda number: fitted(form, {"a": "x", "b": "y"}, number, {})]:
                self.check(BadNumber, call, "number", thing)
        for text in ["".join(["xy"] * 1 + ["y"])]:
            self.check(NotSingle, lambda text: only_reading(form, text), "text", text)
        with self.assertRaises(NoReading):
            only_reading(form, "zz")


if __name__ == "__main__":
    unittest.main()
