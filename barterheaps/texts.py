"""The texts of books."""

from barterheaps.books import book_error
from barterheaps.errors import BadBook, BadText


def book_text(book):
    """The text of the book."""
    return ";".join([">".join([_heap_text(heap) for heap in exchange]) for exchange in book])


def _heap_text(heap):
    """The text of the heap."""
    return ".".join([str(count) for count in heap])


def read_book(scale, value):
    """The book that the text tells; BadText(place), BadBook(index, word)."""
    if not isinstance(value, str):
        raise BadText(-1)
    place = _bad_place(value, len(scale[0]))
    if place is not None:
        raise BadText(place)
    book = _told_book(value)
    wrong = book_error(scale, book)
    if wrong is not None:
        raise BadBook(wrong[0], wrong[1])
    return book


def _bad_place(text, kinds):
    """The first place that can't go on in a text of heaps of so many kinds, None if the text is one."""
    if text == "":
        return None
    done = 0
    number = ""
    for place, sign in enumerate(text):
        if _can_go_on(number, sign):
            number = number + sign
        elif number != "" and sign == _sign_behind(done, kinds):
            done = (done + 1) % (2 * kinds)
            number = ""
        else:
            return place
    if number != "" and done == 2 * kinds - 1:
        return None
    return len(text)


def _can_go_on(number, sign):
    """Whether the sign is a digit that can stand behind these digits of a number."""
    return "0" <= sign <= "9" and number != "0" and len(number) < 2


def _sign_behind(done, kinds):
    """The sign behind the number ahead of which so many of the exchange are done."""
    if done == kinds - 1:
        return ">"
    if done == 2 * kinds - 1:
        return ";"
    return "."


def _told_book(text):
    """The tuple of pairs of tuples of integers that the text tells."""
    if text == "":
        return ()
    return tuple([tuple([_told_heap(part) for part in exchange.split(">")]) for exchange in text.split(";")])


def _told_heap(text):
    """The tuple of integers that the text tells."""
    return tuple([int(word) for word in text.split(".")])
