"""Points 51 to 54: books of forms."""

import itertools
import random
import unittest

from by_hand import FORM, NUMBERS, PLAIN_OBJECTS
from forms_by_hand import BAD_TEXTS, FREE, ONE, TWO, random_forms, readings_by_text, small_forms
from pairs_by_hand import order
from townlines.books import Book
from townlines.compare import both
from townlines.errors import BadName, BadNumber, BadSigns, BadText, NoForm, NotSingle, TooMany, Unknown
from townlines.forms import Form
from townlines.items import Field, Mark, Maybe
from townlines.kinds import Kind
from townlines.readings import readings
from townlines.signs import Signs
from townlines.verdicts import twice

OBJECTS = [*PLAIN_OBJECTS, *NUMBERS, Signs("a"), ONE, Book()]
NO_NAMES = [*OBJECTS, "", "A", "a1", "a b", "\u00e4", "a" * 13, "a\n", "_"]
NO_FORMS = [thing for thing in OBJECTS if not isinstance(thing, Form)] + ["", "a", [FORM], (FORM,), {"a": FORM}]
LONGEST = 5


def alba():
    return Form.parse("{a}", {"a": Kind.run("ab", 1, 2)})


def borea():
    return Form.parse("b[{c}]", {"c": Kind.words(["a"])})


def dash():
    return Form([[Mark("-")]])


def pair():
    return Form([[Field("a", FREE), Field("b", FREE)]])


class Holding(unittest.TestCase):
    def test_putting_and_getting(self):
        book = Book()
        self.assertEqual([len(book), book.names(), "alba" in book], [0, [], False])
        one, other = alba(), borea()
        book["borea"] = other
        book["alba"] = one
        self.assertEqual([len(book), book.names(), "alba" in book, "a" in book], [2, ["alba", "borea"], True, False])
        self.assertIs(book["alba"], one)
        self.assertIs(book["borea"], other)
        book["alba"] = other
        self.assertIs(book["alba"], other)
        self.assertEqual(len(book), 2)
        self.assertIs(book.drop("alba"), None)
        self.assertEqual([len(book), book.names(), "alba" in book], [1, ["borea"], False])
        book["z" * 12] = one
        self.assertEqual(book.names(), ["borea", "z" * 12])

    def test_made_of_a_dict(self):
        one, other = alba(), borea()
        forms = {"z": one, "b": other, "k": one}
        book = Book(forms)
        self.assertEqual([book.names(), len(book), book.most], [["b", "k", "z"], 3, 100])
        self.assertIs(book["k"], one)
        forms["a"] = one
        del forms["z"]
        forms["b"] = None
        self.assertEqual(book.names(), ["b", "k", "z"])
        self.assertIs(book["b"], other)
        book.drop("k")
        book["q"] = one
        self.assertEqual(sorted(forms), ["a", "b", "k"])
        self.assertEqual([len(Book({})), len(Book(None)), len(Book(forms=None, most=3))], [0, 0, 0])

    def test_wrong_names(self):
        one = alba()
        book = Book({"a": one})
        for name in NO_NAMES:
            with self.subTest(name), self.assertRaises(BadName) as caught:
                book[name] = one
            self.assertIs(caught.exception.name, name)
            with self.assertRaises(BadName) as caught:
                book[name] = None
            self.assertIs(caught.exception.name, name)
            if isinstance(name, str):
                for form in [one, None]:
                    with self.assertRaises(BadName) as caught:
                        Book({"b": one, name: form}, most=0)
                    self.assertIs(caught.exception.name, name)
        self.assertEqual(book, Book({"a": one}))

    def test_what_no_form_is(self):
        one = alba()
        book = Book({"a": one})
        for thing in NO_FORMS:
            for name in ["a", "b"]:
                text = "".join([name])
                with self.subTest(thing), self.assertRaises(NoForm) as caught:
                    book[text] = thing
                self.assertIs(caught.exception.name, text)
                with self.assertRaises(NoForm) as caught:
                    Book({text: thing}, most=None)
                self.assertIs(caught.exception.name, text)
        self.assertEqual(book, Book({"a": one}))
        self.assertIs(book["a"], one)

    def test_the_least_wrong_key(self):
        one = alba()
        rows = [("B", None, BadName), ("b", None, NoForm), ("c", one, None), ("d", 5, NoForm), ("", one, BadName),
                ("e1", None, BadName), ("zz", [], NoForm)]
        for size in (1, 2, 3):
            for chosen in itertools.permutations(rows, size):
                wrong = sorted((row for row in chosen if row[2]), key=lambda row: row[0])
                for most in [100, 0, None]:
                    forms = {name: form for name, form, _ in chosen}
                    if wrong:
                        with self.assertRaises(wrong[0][2]) as caught:
                            Book(forms, most=most)
                        self.assertEqual(caught.exception.name, wrong[0][0])
                    elif most == 100:
                        self.assertEqual(Book(forms, most=most).names(), ["c"])
                    else:
                        with self.assertRaises(BadNumber):
                            Book(forms, most=most)

    def test_unknown_names(self):
        book = Book({"a": alba(), "b": borea()})
        for thing in [*NO_NAMES, "c", "aa", "B"]:
            with self.subTest(thing), self.assertRaises(Unknown) as caught:
                book[thing]
            self.assertIs(caught.exception.name, thing)
            with self.assertRaises(Unknown) as caught:
                book.drop(thing)
            self.assertIs(caught.exception.name, thing)
            self.assertIs(thing in book, False)
        self.assertEqual(book.names(), ["a", "b"])
        book.drop("a")
        for call in [book.drop, lambda name: book[name]]:
            with self.assertRaises(Unknown):
                call("a")

    def test_not_iterated_over(self):
        for book in [Book(), Book({"a": alba()})]:
            with self.assertRaises(TypeError):
                list(book)
            with self.assertRaises(TypeError):
                for _ in book:
                    pass

    def test_names_are_new(self):
        book = Book({"b": alba(), "a": borea()})
        names = book.names()
        names.append("z")
        names[0] = "y"
        self.assertEqual(book.names(), ["a", "b"])


class Joining(unittest.TestCase):
    def test_in_place(self):
        one, other = alba(), borea()
        book = Book({"a": one, "b": one}, most=7)
        more = Book({"b": other, "c": other}, most=3)
        same = book
        book |= more
        self.assertIs(book, same)
        self.assertEqual([book.names(), book.most, more.names(), more.most], [["a", "b", "c"], 7, ["b", "c"], 3])
        self.assertEqual([book["a"], book["b"], book["c"]], [one, other, other])
        more.drop("c")
        book["b"] = one
        self.assertEqual([book.names(), more.names(), more["b"]], [["a", "b", "c"], ["b"], other])
        book |= book
        self.assertIs(book, same)
        self.assertEqual(book.names(), ["a", "b", "c"])
        book |= Book()
        self.assertEqual(book.names(), ["a", "b", "c"])
        empty = Book()
        empty |= book
        self.assertEqual(empty, book)

    def test_copies(self):
        one, other = alba(), borea()
        book = Book({"a": one}, most=9)
        copied = book.copy()
        self.assertIsNot(copied, book)
        self.assertEqual([copied == book, copied.most, copied["a"] is one], [True, 9, True])
        copied["b"] = other
        book["c"] = other
        copied.set_most(4)
        self.assertEqual([book.names(), copied.names(), book.most, copied.most], [["a", "c"], ["a", "b"], 9, 4])
        book.drop("a")
        book.set_most(1000)
        self.assertEqual([copied.names(), copied.most], [["a", "b"], 4])
        copied |= book
        self.assertEqual([book.names(), copied.names()], [["c"], ["a", "b", "c"]])

    def test_equality(self):
        self.assertEqual(Book(), Book(most=5))
        self.assertEqual(Book({"a": alba(), "b": borea()}), Book({"b": borea(), "a": alba()}, most=1))
        self.assertNotEqual(Book({"a": alba()}), Book({"a": borea()}))
        self.assertNotEqual(Book({"a": alba()}), Book({"b": alba()}))
        self.assertNotEqual(Book({"a": alba()}), Book({"a": alba(), "b": alba()}))
        self.assertIs(Book() == Book(), True)
        self.assertIs(Book({"a": alba()}) == Book(), False)
        for thing in [*PLAIN_OBJECTS, *NUMBERS, Signs("a"), ONE, "a", {"a": alba()}, alba()]:
            for book in [Book(), Book({"a": alba()})]:
                self.assertIs(book == thing, False)
                self.assertIs(thing == book, False)
                self.assertIs(book != thing, True)


class Most(unittest.TestCase):
    def test_setting(self):
        book = Book({"a": alba()})
        self.assertEqual(book.most, 100)
        for number in [1, 2, 999, 1000]:
            self.assertIs(book.set_most(number), None)
            self.assertEqual([book.most, Book(most=number).most], [number, number])
        for thing in [*OBJECTS, "", "5", -1, 0, 1001, 10 ** 30]:
            if thing in (1, 2, 33, 97) and type(thing) is int:
                continue
            with self.subTest(thing), self.assertRaises(BadNumber) as caught:
                book.set_most(thing)
            self.assertIs(caught.exception.number, thing)
            with self.assertRaises(BadNumber) as caught:
                Book({"a": alba()}, most=thing)
            self.assertIs(caught.exception.number, thing)
            self.assertEqual(book.most, 1000)

    def test_most_is_passed_by_name_only(self):
        with self.assertRaises(TypeError):
            Book({}, 5)

    def test_it_is_set_by_set_most_only(self):
        with self.assertRaises(AttributeError):
            Book().most = 5

    def test_exactly_so_many(self):
        text = "a" * 11
        book = Book({"p": pair()}, most=10)
        self.assertEqual(len(book.read(text)), 10)
        book.set_most(9)
        with self.assertRaises(TooMany):
            book.read(text)
        book.set_most(10)
        book["q"] = alba()
        self.assertEqual(len(book.read(text)), 10)
        book["o"] = Form([[Field("z", FREE)]])
        with self.assertRaises(TooMany):
            book.read(text)
        book.set_most(11)
        self.assertEqual(len(book.read(text)), 11)
        book["q"] = pair()
        with self.assertRaises(TooMany):
            book.read(text)
        book.set_most(21)
        self.assertEqual([name for name, _ in book.read(text)], ["o"] + ["p"] * 10 + ["q"] * 10)
        book.set_most(1)
        self.assertEqual(book.read("--"), [])

    def test_more_than_a_thousand(self):
        book = Book({"a": pair(), "b": pair(), "c": pair()}, most=1000)
        self.assertEqual(len(book.read("a" * 334)), 999)
        with self.assertRaises(TooMany):
            book.read("a" * 335)

    def test_the_empty_text(self):
        empty = Form([[Maybe([Field("a", ONE)])]])
        for number in range(1, 5):
            book = Book({"abcd"[at]: empty for at in range(number)}, most=2)
            if number > 2:
                with self.assertRaises(TooMany):
                    book.read("")
            else:
                self.assertEqual(book.read(""), [("abcd"[at], {}) for at in range(number)])
            expected = None if number == 1 else ("", ("a", {}), ("b", {}))
            self.assertEqual(book.twice(), expected)


class Reading(unittest.TestCase):
    def test_example(self):
        book = Book({"borea": borea(), "alba": alba()})
        self.assertEqual(book.read("ba"), [("alba", {"a": "ba"}), ("borea", {"c": "a"})])
        self.assertEqual([type(row) for row in book.read("ba")], [tuple, tuple])
        self.assertEqual(book.read("a"), [("alba", {"a": "a"})])
        self.assertEqual([book.read("c"), Book().read("a")], [[], []])

    def test_orders(self):
        book = Book({"b": pair(), "a": pair()})
        rows = readings(pair(), "abab")
        self.assertEqual(book.read(text="abab"), [("a", row) for row in rows] + [("b", row) for row in rows])

    def test_what_no_text_is(self):
        for book in [Book(), Book({"a": pair(), "b": pair()}, most=1)]:
            for thing in BAD_TEXTS:
                with self.subTest(thing), self.assertRaises(BadText):
                    book.read(thing)

    def test_what_is_returned_is_new(self):
        book = Book({"a": alba()})
        for _ in range(2):
            found = book.read("a")
            self.assertEqual(found, [("a", {"a": "a"})])
            found[0][1].clear()
            found.clear()
        book = Book({"a": alba(), "b": alba()})
        for _ in range(2):
            found = book.twice()
            self.assertEqual(found, ("a", ("a", {"a": "a"}), ("b", {"a": "a"})))
            found[1][1].clear()
            found[2][1]["z"] = 1


def drawn_books():
    draw = random.Random(53)
    forms = [*small_forms()[::3], *random_forms(53, 60), dash(), Form([[Mark("-"), Field("a", ONE)]])]
    marked = [Form([[Mark(sign), *form.lines[0]], *form.lines[1:]]) for sign, form in zip("cdefghijkl" * 9, forms)]
    books = []
    for at in range(220):
        names = draw.sample(["k", "aa", "z", "b", "ab", "c"], draw.randint(0, 4))
        books.append(Book({name: draw.choice(marked if at % 2 else forms) for name in names}, most=draw.choice([1, 100])))
    return books


class AllShortTexts(unittest.TestCase):
    def test_read_twice_and_single(self):
        cache = {}
        seen = [0, 0, 0, 0]
        for book in drawn_books():
            rows = {}
            for name in book.names():
                key = id(book[name])
                if key not in cache:
                    cache[key] = (book[name], readings_by_text(book[name], LONGEST))
                for text, found in cache[key][1].items():
                    rows.setdefault(text, []).extend((name, record) for _, record in found)
            expected = None
            for text in sorted(rows, key=order):
                if len(rows[text]) <= book.most:
                    self.assertEqual(book.read(text), rows[text])
                else:
                    with self.assertRaises(TooMany):
                        book.read(text)
                if expected is None and len(rows[text]) > 1:
                    expected = (text, *rows[text][:2])
            result = book.twice()
            if result is None or len(result[0]) <= LONGEST:
                self.assertEqual(result, expected)
            else:
                self.assertIsNone(expected)
            forms = [book[name] for name in book.names()]
            least = [twice(form)[0] for form in forms if twice(form)]
            least += [both(*two) for two in itertools.combinations(forms, 2) if both(*two) is not None]
            self.assertEqual(result and result[0], min(least, key=order, default=None))
            self.assertIs(book.single(), result is None)
            if result:
                seen[2 + (result[1][0] == result[2][0])] += 1
            seen[result is None] += 1
        self.assertGreater(min(seen), 25)

    def test_one_form_or_two(self):
        book = Book({"borea": borea(), "alba": alba()})
        self.assertEqual(book.twice(), ("b", ("alba", {"a": "b"}), ("borea", {})))
        book["alba"] = pair()
        self.assertEqual(book.twice(), ("ba", ("alba", {"a": "b", "b": "a"}), ("borea", {"c": "a"})))
        self.assertEqual(Book({"p": Form([[Field("a", TWO), Field("b", TWO)]]), "q": Form([[Mark("aaa")]])}).twice(),
                         ("aaa", ("p", {"a": "aa", "b": "a"}), ("p", {"a": "a", "b": "aa"})))
        self.assertEqual(Book({"p": Form([[Field("a", TWO), Field("b", TWO)]]), "o": Form([[Mark("aaa")]])}).twice(),
                         ("aaa", ("o", {}), ("p", {"a": "aa", "b": "a"})))

    def test_most_does_not_matter(self):
        for most in [1, 2, 1000]:
            book = Book({"a": alba(), "b": alba()}, most=most)
            self.assertEqual(book.twice(), ("a", ("a", {"a": "a"}), ("b", {"a": "a"})))
            self.assertIs(book.single(), False)
        self.assertIs(Book().twice(), None)
        self.assertIs(Book(most=1).single(), True)

    def test_one_form_under_two_names(self):
        one = alba()
        book = Book({"a": one, "b": one})
        self.assertEqual(book.twice(), ("a", ("a", {"a": "a"}), ("b", {"a": "a"})))


class Broken(Exception):
    pass


class KeepSingle(unittest.TestCase):
    def setUp(self):
        self.book = Book({"alba": alba()}, most=50)

    def check(self, names):
        self.assertEqual(self.book.names(), names)

    def test_the_value_of_the_deed(self):
        calls = []

        def deed(held):
            calls.append(held)
            held["dash"] = dash()
            return calls

        self.assertIs(self.book.keep_single(deed), calls)
        self.assertEqual(len(calls), 1)
        self.assertIs(calls[0], self.book)
        self.check(["alba", "dash"])
        self.assertIs(self.book.keep_single(deed=lambda held: held.drop("alba")), None)
        self.check(["dash"])
        self.assertIs(self.book.keep_single(lambda held: False), False)

    def test_a_book_that_is_not_single(self):
        def deed(held):
            held["borea"] = borea()
            held.drop("alba")
            held["cora"] = alba()
            held.set_most(3)
            return 5

        with self.assertRaises(NotSingle) as caught:
            self.book.keep_single(deed)
        self.assertEqual(caught.exception.text, "b")
        self.check(["alba"])
        self.assertEqual([self.book.most, self.book["alba"]], [3, alba()])

    def test_a_book_that_was_not_single_before(self):
        self.book["borea"] = borea()
        with self.assertRaises(NotSingle):
            self.book.keep_single(lambda held: None)
        self.check(["alba", "borea"])
        self.book.keep_single(lambda held: held.drop("borea"))
        self.check(["alba"])

    def test_errors_of_the_deed(self):
        errors = [ValueError("a"), KeyError("b"), TypeError(), ZeroDivisionError(), StopIteration(), Exception("c"), Broken(),
                  AttributeError(), RuntimeError(), AssertionError(), Unknown("a"), NotSingle("z"), BadText(), OSError(),
                  RecursionError(), MemoryError(), LookupError(), StopAsyncIteration()]
        for error in errors:
            def deed(held):
                held["borea"] = borea()
                held.drop("alba")
                held.set_most(7)
                raise error

            with self.assertRaises(type(error)) as caught:
                self.book.keep_single(deed)
            self.assertIs(caught.exception, error)
            self.check(["alba"])
            self.assertEqual(self.book.most, 7)

    def test_errors_that_the_book_raises(self):
        for deed, error in [(lambda held: held["zz"], Unknown), (lambda held: held.drop(None), Unknown),
                            (lambda held: held.set_most(0), BadNumber), (lambda held: held.read("%"), BadText),
                            (lambda held: list(held), TypeError), (lambda held: 1 // 0, ZeroDivisionError),
                            (lambda held: held.__setitem__("A", alba()), BadName), (lambda: None, TypeError)]:
            with self.assertRaises(error):
                self.book.keep_single(deed)
            self.check(["alba"])

    def test_the_error_of_the_deed_comes_before_the_verdict(self):
        def deed(held):
            held["borea"] = borea()
            raise Broken()

        with self.assertRaises(Broken):
            self.book.keep_single(deed)
        self.check(["alba"])

    def test_all_ways_to_change(self):
        def deed(held):
            held |= Book({"dash": dash(), "line": Form([[Mark("=")]])})
            held["alba"] = Form([[Mark("+")]])
            held.drop("dash")
            held["never"] = Form([[Mark("_")]])
            if self.fails:
                raise Broken()

        self.fails = True
        with self.assertRaises(Broken):
            self.book.keep_single(deed)
        self.check(["alba"])
        self.assertEqual(self.book["alba"], alba())
        self.fails = False
        self.book.keep_single(deed)
        self.check(["alba", "line", "never"])

    def test_nested_three_deep(self):
        """Each of three calls puts a form, and each may fail; each error may be caught one call further out."""
        marks = ["-", "=", "+"]
        for fails in itertools.product(["no", "own", "town", "double"], repeat=3):
            for caught in itertools.product([True, False], repeat=2):
                self.book = Book({"alba": alba()})
                self.nested(0, marks, fails, caught)

    def nested(self, depth, marks, fails, caught):
        name = "xyz"[depth]

        def deed(held):
            held[name] = Form([[Mark(marks[depth])]])
            if depth < 2:
                before = held.names()
                try:
                    self.assertEqual(held.keep_single(self.deeper(depth + 1, marks, fails, caught)), depth + 1)
                except (Broken, BadName, NotSingle):
                    self.assertEqual(held.names(), before)
                    if not caught[depth]:
                        raise
            held["last" + name] = Form([[Mark("last" + marks[depth])]])
            if fails[depth] == "own":
                raise Broken()
            if fails[depth] == "town":
                held[""] = None
            if fails[depth] == "double":
                held["two" + name] = alba()
            return depth

        if depth > 0:
            return deed
        failing = self.expected(0, fails, caught)
        if failing is None:
            self.assertEqual(self.book.keep_single(deed), 0)
            kept = ["alba", "x", "lastx"]
            for inner in (1, 2):
                if self.expected(inner, fails, caught) is not None:
                    break
                kept += ["xyz"[inner], "last" + "xyz"[inner]]
            self.check(sorted(kept))
        else:
            with self.assertRaises(failing):
                self.book.keep_single(deed)
            self.check(["alba"])

    def deeper(self, depth, marks, fails, caught):
        return self.nested(depth, marks, fails, caught)

    def expected(self, depth, fails, caught):
        """The error that comes out of the call at this depth, or None."""
        if depth < 2:
            inner = self.expected(depth + 1, fails, caught)
            if inner is not None and not caught[depth]:
                return inner
        return {"no": None, "own": Broken, "town": BadName, "double": NotSingle}[fails[depth]]

    def test_an_inner_call_keeps_what_the_outer_one_loses(self):
        def outer(held):
            held["dash"] = dash()
            held.keep_single(lambda inner: inner.drop("alba"))
            self.check(["dash"])
            held.set_most(8)
            raise Broken()

        with self.assertRaises(Broken):
            self.book.keep_single(outer)
        self.check(["alba"])
        self.assertEqual(self.book.most, 8)

    def test_an_inner_call_restores_what_held_when_it_began(self):
        def inner(held):
            held.drop("dash")
            held["borea"] = borea()

        def outer(held):
            held["dash"] = dash()
            with self.assertRaises(NotSingle):
                held.keep_single(inner)
            self.check(["alba", "dash"])
            held["eq"] = Form([[Mark("=")]])
            return "done"

        self.assertEqual(self.book.keep_single(outer), "done")
        self.check(["alba", "dash", "eq"])

    def test_the_inner_verdict_counts(self):
        """The book is not single while the inner call ends, though it would be at the end of the outer one."""
        def outer(held):
            held["borea"] = borea()
            held.keep_single(lambda inner: inner.set_most(2))

        with self.assertRaises(NotSingle) as caught:
            self.book.keep_single(outer)
        self.assertEqual(caught.exception.text, "b")
        self.check(["alba"])
        self.assertEqual(self.book.most, 2)

    def test_copies_are_not_restored(self):
        copies = []

        def deed(held):
            held["dash"] = dash()
            copies.append(held.copy())
            raise Broken()

        with self.assertRaises(Broken):
            self.book.keep_single(deed)
        self.assertEqual(copies[0].names(), ["alba", "dash"])
        self.check(["alba"])
        self.book["eq"] = Form([[Mark("=")]])
        self.assertEqual(copies[0].names(), ["alba", "dash"])

    def test_changes_after_an_error(self):
        with self.assertRaises(ZeroDivisionError):
            self.book.keep_single(lambda held: 1 // 0)
        self.book["dash"] = dash()
        self.check(["alba", "dash"])
        self.book.drop("alba")
        self.check(["dash"])


class BesideSigns(unittest.TestCase):
    def test_a_book_is_no_operand(self):
        for book in [Book(), Book({"a": alba()})]:
            for call in [lambda: Signs("a") | book, lambda: book | Signs("a"), lambda: Signs("a") & book,
                         lambda: book & Signs("a"), lambda: Signs("a") - book, lambda: book - Signs("a"),
                         lambda: Signs("a").within(book), lambda: Signs(book)]:
                with self.assertRaises(BadSigns):
                    call()
            self.assertIs(book in Signs("a"), False)
            self.assertIs(book in ONE, False)


class Interface(unittest.TestCase):
    def test_the_methods_stand_in_the_class(self):
        for name in ["__setitem__", "__getitem__", "__contains__", "__len__", "__eq__", "__ior__", "most", "names", "drop", "copy",
                     "set_most", "read", "twice", "single", "keep_single"]:
            self.assertIn(name, vars(Book))
        self.assertEqual(Book.__module__, "townlines.books")

    def test_by_name(self):
        book = Book(most=5, forms={"a": alba()})
        self.assertEqual([book.names(), book.most], [["a"], 5])
        book.set_most(number=6)
        self.assertEqual([book.most, book.read(text="a")], [6, [("a", {"a": "a"})]])
        self.assertIs(book.keep_single(deed=lambda held: held.drop(name="a")), None)
        self.assertEqual(len(book), 0)


if __name__ == "__main__":
    unittest.main()
