"""The ledger: what the plain reading meets, how often and how wide."""

from broadrow.reading import Book, reading


def ledger(program, worths):
    """A list of tuples (place, rounds, met, width), sorted; None where the reading stops."""
    book = Book()
    if reading(program, worths, book)[0] == "stops":
        return None
    return sorted([meeting + (book.often[meeting], book.wide[meeting]) for meeting in book.often])
