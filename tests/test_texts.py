import copy
import inspect
import re
import unittest
from random import Random

from barterheaps import texts
from barterheaps.books import book_error, least_book
from barterheaps.errors import BadBook, BadText
from barterheaps.exchanges import least_exchanges
from barterheaps.texts import book_text, read_book
from values import KNOTTED, OTHERS, SCALES, SINGLE_SCALES, TABLE, TRIANGLE, is_plain

SCALE = ((2, 3, 4),)
FIRST = ((2, 0, 0), (0, 0, 1))
SECOND = ((1, 0, 1), (0, 2, 0))
BOOK = (FIRST, SECOND)
TEXT = "2.0.0>0.0.1;1.0.1>0.2.0"
SIGNS = "0123456789.>;,<:- +x/"


def slow_bad_place(text, kinds):
    """The first place that can't go on, by looking for an end that makes each start of the text a text."""
    number = "(?:0|[1-9][0-9]?)"
    heap = number + "(?:[.]" + number + "){" + str(kinds - 1) + "}"
    pattern = re.compile("(?:" + heap + ">" + heap + "(?:;" + heap + ">" + heap + ")*)?")
    least = ">".join([".".join("0" * kinds)] * 2)
    ends = [least[place:] for place in range(len(least) + 1)]
    for size in range(1, len(text) + 1):
        if not any(pattern.fullmatch(text[:size] + end) for end in ends):
            return size - 1
    return None if pattern.fullmatch(text) else len(text)


class BookTextTest(unittest.TestCase):
    """Point [10]: book_text."""

    def test_told(self):
        self.assertEqual(book_text(()), "")
        self.assertEqual(book_text((FIRST,)), "2.0.0>0.0.1")
        self.assertEqual(book_text(BOOK), TEXT)
        self.assertEqual(book_text((FIRST[::-1],)), "0.0.1>2.0.0")
        self.assertEqual(book_text((((40, 0), (0, 20)), ((10, 1), (8, 2)))), "40.0>0.20;10.1>8.2")
        self.assertEqual(book_text((((6,) * 1, (6,) * 1),)), "6>6")

    def test_not_sorted(self):
        self.assertEqual(book_text(BOOK[::-1]), "1.0.1>0.2.0;2.0.0>0.0.1")

    def test_read_again(self):
        for scale in SINGLE_SCALES[::13] + SCALES + KNOTTED:
            for book in ((), least_book(scale), least_exchanges(scale)[:30], least_exchanges(scale)[29::-1]):
                text = book_text(book)
                self.assertIs(type(text), str)
                self.assertEqual(read_book(scale, text), book)

    def test_read_again_with_counts_of_two_digits(self):
        scale = ((1, 1, 1, 1, 1, 1), (1, 1, 1, 0, 0, 0), (0, 0, 0, 1, 0, 0))
        chance = Random(1)
        book = []
        while len(book) < 30:
            one = tuple(chance.randint(0, 40) for _ in range(6))
            other = tuple(chance.sample(one[:3], 3)) + one[3:4] + tuple(chance.sample(one[4:], 2))
            if book_error(scale, tuple(book) + ((one, other),)) is None:
                book.append((one, other))
        self.assertEqual(read_book(scale, book_text(tuple(book))), tuple(book))


class BadTextTest(unittest.TestCase):
    """Point [10]: read_book, and BadText(place)."""

    def check(self, place, *values, scale=SCALE):
        for value in values:
            before = copy.deepcopy(value)
            with self.subTest(value=value), self.assertRaises(BadText) as caught:
                read_book(scale, value)
            self.assertEqual(caught.exception.place, place)
            self.assertIs(type(caught.exception.place), int)
            self.assertEqual(value, before)

    def test_no_string(self):
        self.check(-1, *[value for value in OTHERS if not isinstance(value, str)])
        self.check(-1, (), BOOK, (TEXT,), [TEXT], {TEXT: 1}, list(TEXT))

    def test_told(self):
        self.check(0, "x", " ", ";", ">", ".", "-1.0.0>0.0.1", " " + TEXT, ";" + TEXT, "scale")
        self.check(1, "2", "00.0.0>0.0.0", "01.0.0>0.0.0", "2>", "2;", "2 .0.0>0.0.1", "2,0.0>0.0.1", "0x")
        self.check(2, "123.0.0>0.0.0", "400.0.0>0.0.0", "10", "2.", "2..0", "2.>", "2.;", "2.-1")
        self.check(3, "2.0>0.0.1", "2.0;", "2.0", "2.00.0>0.0.1", "2.0,0>0.0.1", "10.")
        self.check(5, "2.0.0", "2.0.0;", "2.0.0.0>", "2.0.0 >0.0.1", "2.0.0=0.0.1")
        self.check(6, "2.0.0>", "2.0.0>>", "2.0.0> 0.0.1", "2.0.0>;", "2.0.0>.0.1")
        self.check(7, "2.0.0>0>0.0", "2.0.0>01.0.1", "2.0.0>0;0.1")
        self.check(11, TEXT[:11] + ">", TEXT[:11] + ".0", TEXT[:11] + ",", TEXT[:11] + " ", TEXT[:11] + "x")
        self.check(12, TEXT[:12], TEXT[:12] + ";", TEXT[:12] + " " + TEXT[12:], TEXT[:12] + ">")

    def test_texts_that_end_too_early(self):
        for size in range(1, len(TEXT)):
            if size != 11:
                self.check(size, TEXT[:size])
        self.assertEqual(read_book(SCALE, TEXT[:11]), (FIRST,))
        self.assertEqual(read_book(SCALE, TEXT), BOOK)

    def test_too_few_and_too_many_counts(self):
        self.check(3, TEXT, scale=((1, 1),))
        self.check(5, TEXT, scale=((1, 1, 1, 1),))
        self.check(1, TEXT, scale=((1,),))
        self.check(5, TEXT, scale=TABLE)

    def test_one_kind(self):
        self.check(1, "3", "3.", "3;", scale=((1,),))
        self.check(2, "3>", "3>>", "3>.", "3>;", scale=((1,),))
        self.check(3, "3>4.", "3>4>", "3>04", "3>4 ", scale=((1,),))
        self.check(4, "3>4;", "3>4;;", "3>4; ", "3>44.", "3>444", scale=((1,),))
        self.check(5, "3>4;3", "3>4;3;", "3>44;", "3>44;>", scale=((1,),))

    def test_all_short_texts(self):
        for scale, most, signs in ((((5,),), 6, "019.>; "), (((1, 1),), 8, "02.>;"), (SCALE, 8, "07.>;")):
            level = [""]
            for _ in range(most):
                # Those that can go on in all places but perhaps the last.
                level = [text + sign for text in level for sign in signs]
                places = [self.place_of(scale, text) for text in level]
                self.assertEqual(places, [slow_bad_place(text, len(scale[0])) for text in level])
                level = [text for text, place in zip(level, places) if place in (None, len(text))]

    def place_of(self, scale, text):
        """The place that is told, None if the form is right."""
        try:
            read_book(scale, text)
        except BadText as caught:
            return caught.place
        except BadBook:
            pass
        return None

    def test_signs_put_in_left_out_and_exchanged(self):
        six = ((1, 1, 1, 1, 1, 1), (1, 1, 1, 0, 0, 0), (0, 0, 0, 1, 0, 0))
        for scale, text in (
            (SCALE, TEXT), (((6, 4),), "12.3>2.18"), (((5,),), "1>2;3>40;0>5"), (((5,),), "10>9"),
            (six, "0.1.2.3.4.40>10.0.0.20.3.0"),
        ):
            for changed in self.changed_texts(text):
                told = slow_bad_place(changed, len(scale[0]))
                self.assertEqual(self.place_of(scale, changed), told, changed)
                if told is not None and told < len(changed):
                    # What stands behind the place does not matter.
                    self.assertEqual(self.place_of(scale, changed[:told + 1]), told)
                    self.assertEqual(self.place_of(scale, changed[:told + 1] + "3.2>"), told)

    def changed_texts(self, text):
        """The texts with one sign put in, left out, exchanged, doubled, or changed with the next one."""
        for place in range(len(text) + 1):
            ahead, behind = text[:place], text[place:]
            for sign in SIGNS:
                yield ahead + sign + behind
                yield ahead + sign + behind[1:]
            yield ahead + behind[1:]
            yield ahead + behind[:1] + behind
            yield ahead + behind[1:2] + behind[:1] + behind[2:]

    def test_long_texts(self):
        text = ";".join([TEXT] * 80)
        self.check(len(text) + 1, text + ";")
        self.check(len(text), text + ">")
        self.check(0, "x" * 2000, " " * 2000)
        self.check(2, "1" * 2000)


class BadBookTest(unittest.TestCase):
    """Point [10]: BadBook(index, word) of a text."""

    def check(self, index, word, *values, scale=SCALE):
        for value in values:
            with self.subTest(value=value), self.assertRaises(BadBook) as caught:
                read_book(scale, value)
            self.assertEqual((caught.exception.index, caught.exception.word), (index, word))

    def test_book(self):
        self.check(-1, "book", ";".join(["2.0.0>0.0.1"] * 31), ";".join([TEXT] * 16), ";".join(["0.0.0>0.0.0"] * 31))
        self.check(1, "twice", ";".join(["2.0.0>0.0.1"] * 30))

    def test_heap(self):
        self.check(0, "heap", "41.0.0>39.0.1", "99.99.99>99.99.99", "2.0.0>0.0.99", "2.0.0>41.0.1;1.1.1>1.1.1")
        self.check(1, "heap", "2.0.0>0.0.1;41.0.0>39.0.1", "2.0.0>0.0.1;1.0.1>0.50.0")
        self.assertEqual(read_book(SCALE, "40.0.0>38.0.1"), (((40, 0, 0), (38, 0, 1)),))

    def test_same_and_sums(self):
        self.check(0, "same", "0.0.0>0.0.0", "1.2.3>1.2.3", "1.2.3>1.2.3;" + TEXT)
        self.check(2, "same", TEXT + ";1.2.3>1.2.3")
        self.check(0, "sums", "1.0.0>0.0.1", "1.0.0>0.1.0;1.1.1>1.1.1")
        self.check(2, "sums", TEXT + ";0.0.0>0.0.1")

    def test_twice(self):
        self.check(1, "twice", "2.0.0>0.0.1;2.0.0>0.0.1", "2.0.0>0.0.1;0.0.1>2.0.0")
        self.check(2, "twice", TEXT + ";" + TEXT, TEXT + ";2.0.0>0.0.1", TEXT + ";0.2.0>1.0.1")

    def test_bad_text_ahead_of_bad_book(self):
        for text in ("1.2.3>1.2.3;", "41.0.0>39.0.1;x", TEXT + ";" + TEXT + ".", ";".join([TEXT] * 40) + ";"):
            with self.assertRaises(BadText):
                read_book(SCALE, text)

    def test_as_book_error(self):
        chance = Random(2)
        for scale in (SCALE, ((1, 1, 1),), TRIANGLE):
            for _ in range(300):
                heaps = [tuple(chance.choice((0, 0, 1, 2, 40, 41)) for _ in range(3)) for _ in range(2)]
                book = tuple(tuple(chance.choice(heaps) for _ in range(2)) for _ in range(chance.randint(1, 3)))
                wrong = book_error(scale, book)
                if wrong is None:
                    self.assertEqual(read_book(scale, book_text(book)), book)
                else:
                    self.check(*wrong, book_text(book), scale=scale)


class ConventionsTest(unittest.TestCase):
    """Point [2], and the interface, for texts.py."""

    def test_names_and_arguments(self):
        for name, words in {"book_text": ["book"], "read_book": ["scale", "value"]}.items():
            function = getattr(texts, name)
            self.assertEqual(function.__module__, "barterheaps.texts")
            self.assertEqual(list(inspect.signature(function).parameters), words)

    def test_arguments_by_name(self):
        self.assertEqual(book_text(book=BOOK), TEXT)
        self.assertEqual(read_book(value=TEXT, scale=SCALE), BOOK)

    def test_kinds_of_what_is_returned(self):
        for text in ("", TEXT, "40.0.0>38.0.1"):
            book = read_book(SCALE, text)
            self.assertIs(type(book), tuple)
            self.assertTrue(is_plain(book))
            self.assertEqual({type(count) for pair in book for heap in pair for count in heap} | {int}, {int})


if __name__ == "__main__":
    unittest.main()
