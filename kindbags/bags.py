"""Bags of kinds, and books: the bags of open names."""

from kindbags.walks import flat_sorted


def bag_of(kinds):
    return flat_sorted(kinds)


def added(one, other):
    return bag_of(one + other)


def books_added(books):
    kinds_of = {}
    for book in books:
        for number, bag in book.items():
            kinds_of.setdefault(number, []).extend(bag)
    return book_of(kinds_of)


def book_of(kinds_of):
    # The book in which each name has the bag of these kinds.
    book = {}
    for number in sorted(kinds_of):
        book[number] = bag_of(kinds_of[number])
    return book


def beneath(book):
    below = {}
    for number, bag in book.items():
        if number != 0:
            below[number - 1] = bag
    return (book.get(0, ()), below)
