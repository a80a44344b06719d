"""A desk: the rows of a text are told to a book, or asked of it."""

from hotpass.book import Book
from hotpass.errors import BadRow, NoGang, NoPiece, NoTelling
from hotpass.gangs import Gang
from hotpass.rows import HANDS, row_in, yard_in
from hotpass.texts import joined


def listed(parts):
    """Parts of an answer by blanks, "-" where there are none."""
    return joined(parts) if parts else "-"


def of_at(book, beat, deed):
    return str(book.tell(beat, deed))


def of_untell(book, number):
    book.untell(number)
    return "gone"


def of_where(book, piece, beat):
    place = book.yard_at(beat).where(piece)
    if place[0] == "fire":
        last = "never" if place[2] is None else place[2]
        return joined(("fire", place[1], last))
    if place[0] == "hand":
        return joined(("hand", place[1], HANDS[place[2]], place[3]))
    return joined(place)


def of_counts(book, beat):
    return joined(book.yard_at(beat).counts())


def of_holding(book, name, kind, beat):
    return listed(book.yard_at(beat).holding(name, kind))


def of_gang(book, name, beat):
    takes, hands = book.yard_at(beat).takes_of(name)
    return joined(takes + hands)


def happening_text(happening):
    beat, word, piece, *more = happening
    if word == "passed":
        return f"{beat}:{word}:{piece}:{HANDS[more[0]]}"
    if word == "closed":
        return f"{beat}:{word}:{piece}:{more[0]}"
    return f"{beat}:{word}:{piece}"


def of_happened(book, first, behind):
    return listed([happening_text(happening) for happening in book.happened(first, behind)])


def of_voids(book):
    return listed([f"{number}:{word}" for number, word in book.voids()])


def of_calls(book):
    return str(book.calls())


def of_pace(book, name, beat):
    takes, hands = book.yard_at(beat).takes_of(name)
    if 0 in hands:
        return "none"
    gang = Gang(name, takes, hands)
    top, bottom = gang.pace()
    return joined([f"{top}/{bottom}"] + [HANDS[kind] for kind in gang.binds()])


ANSWERS = {
    "at": of_at,
    "untell": of_untell,
    "where": of_where,
    "counts": of_counts,
    "holding": of_holding,
    "gang": of_gang,
    "happened": of_happened,
    "voids": of_voids,
    "calls": of_calls,
    "pace": of_pace,
}


def answer_to(book, word, parts):
    """The answer to a telling or a question, a refusal too."""
    action = ANSWERS[word]
    try:
        return action(book, *parts)
    except NoTelling:
        return "refused NoTelling"
    except NoPiece:
        return "refused NoPiece"
    except NoGang:
        return "refused NoGang"


def read_rows(text):
    """What each row that isn't empty stands for; the first one for what a book is begun with."""
    rows = text.split("\n")
    found = []
    for number, row in enumerate(rows):
        if row == "":
            continue
        told = row_in(row) if found else yard_in(row)
        if told is None:
            raise BadRow(number)
        found.append(told)
    if not found:
        raise BadRow(len(rows))
    return found


def answers(text):
    """An answer for each row behind the first that isn't empty."""
    begun, *rows = read_rows(text)
    book = Book(*begun)
    return [answer_to(book, word, parts) for word, parts in rows]
