"""Plain walks, beat by beat, against which the tests hold what the program tells."""

import random

from hotpass.gangs import Gang


class Piece:
    def __init__(self, ask, is_missed):
        self.ask = ask
        self.is_missed = is_missed
        self.begins = []
        self.word = None
        self.end = None

    def is_over(self, beat):
        return self.end is not None and self.end <= beat

    def is_with(self, kind, beat):
        return len(self.begins) == kind + 1 and not self.is_over(beat)


def may_begin(gang, pieces, number, kind, beat):
    piece = pieces[number]
    ready = piece.ask if kind == 0 else piece.begins[-1] + gang.takes[kind - 1]
    if ready > beat:
        return False
    if sum(other.is_with(kind, beat) for other in pieces) >= gang.hands[kind]:
        return False
    return all(len(other.begins) > kind or other.is_over(beat) for other in pieces[:number])


def walk(gang, asks, holes=None, missed=None, life=None):
    """What passed tells, found by looking at each beat at which piece may begin with which hand."""
    pieces = [Piece(ask, number in (missed or ())) for number, ask in enumerate(asks)]
    filled = 0
    beat = 0
    while not all(piece.is_over(beat) for piece in pieces):
        if all(piece.is_over(beat) or not piece.begins for piece in pieces):
            beat = max(beat, min(piece.ask for piece in pieces if not piece.begins))
        for piece in pieces:
            if life is not None and piece.end is None and piece.begins and beat > piece.begins[0] + life:
                piece.word, piece.end = "cold", beat
        moved = True
        while moved:
            moved = False
            for number, piece in enumerate(pieces):
                kind = len(piece.begins)
                if piece.end is not None or not may_begin(gang, pieces, number, kind, beat):
                    continue
                moved = True
                if kind == 2 and piece.is_missed:
                    piece.word, piece.end = "missed", beat
                    continue
                piece.begins.append(beat)
                if kind == 3:
                    more = holes[filled] if holes is not None and filled < len(holes) else 0
                    filled += 1
                    piece.word, piece.end = "closed", beat + gang.takes[3] + more
        beat += 1
    return [(piece.word, tuple(piece.begins), piece.end) for piece in pieces]


def some_gangs(many, seed, most=6):
    """So many gangs, the same for the same seed; one hand of each kind as often as more."""
    chance = random.Random(seed)
    for _ in range(many):
        takes = [chance.randint(1, most) for _ in range(4)]
        hands = [chance.choice((1, 1, 1, 2, 3, 4)) for _ in range(4)]
        yield Gang("ann", takes, hands)


def unlike_by_one(thing):
    """Things that are otherwise than this one by one step, at any depth."""
    yield from (None, "x", [], (), -7, thing.__class__.__name__, [thing], (thing,))
    if isinstance(thing, (list, tuple)):
        kind = thing.__class__
        yield tuple(thing) if kind is list else list(thing)
        for at, item in enumerate(thing):
            yield kind([*thing[:at], *thing[at + 1:]])
            yield kind([*thing[:at], item, *thing[at:]])
            for other in unlike_by_one(item):
                yield kind([*thing[:at], other, *thing[at + 1:]])
        yield kind([*thing, None])
    elif isinstance(thing, str):
        yield from (thing + " ", thing.upper(), thing[1:], "")
    elif thing is None:
        yield from (0, 1, True, False, 10 ** 5000)
    else:
        yield from (thing + 1, thing - 1, str(thing), True, False, 10 ** 5000)


def is_just(one, other):
    """Whether both are alike and of the same kinds all through."""
    if one.__class__ is not other.__class__:
        return False
    if isinstance(one, (list, tuple)):
        return len(one) == len(other) and all(is_just(a, b) for a, b in zip(one, other))
    return one == other


def walk_turns(wishes, mouth):
    """What turns tells, found by looking at each beat at which pieces are hot."""
    drawn = [None] * len(wishes)
    for beat in range(max([last for _, last in wishes], default=-1) + 1):
        hot = [(last, number) for number, (first, last) in enumerate(wishes)
               if first <= beat <= last and drawn[number] is None]
        for _, number in sorted(hot)[:mouth]:
            drawn[number] = beat
    return drawn


def asked_up_to(shares, end):
    """Of each share the pieces (first, last, share, i) that are asked ahead of end, rising."""
    pieces = []
    for share, (beats, many, first, wide) in enumerate(shares):
        number = 0
        while (ask := first + number * beats // many) < end:
            pieces.append((ask, ask + wide, share, number))
            number += 1
    return sorted(pieces)


def walk_shares(shares, mouth, end):
    """What for_ever tells, as far as it can be seen ahead of a beat."""
    coming = asked_up_to(shares, end)[::-1]
    waiting = []
    wait = 0
    for beat in range(end):
        while coming and coming[-1][0] <= beat:
            ask, last, share, number = coming.pop()
            waiting.append((last, share, number, ask))
        waiting.sort()
        wait = max([wait] + [beat - ask for _, _, _, ask in waiting[:mouth]])
        waiting = waiting[mouth:]
        if waiting and waiting[0][0] <= beat:
            return ("burnt", waiting[0][1], waiting[0][2])
    return ("kept", wait)


def some_wishes(many, seed, most=12):
    """So many lists of wishes, the same for the same seed, that crowd now and then."""
    chance = random.Random(seed)
    for _ in range(many):
        span = chance.choice((0, 3, 8, 20))
        firsts = [chance.randint(0, span) for _ in range(chance.randint(0, most))]
        yield [(first, first + chance.choice((0, 0, 1, 2, 5, 12))) for first in firsts]


def some_shares(many, seed):
    """So many pairs of shares and a mouth, within the bounds of stage 6."""
    chance = random.Random(seed)
    for _ in range(many):
        shares = []
        for _ in range(chance.randint(1, 6)):
            pieces = chance.choice((1, 1, 1, 2, 3, chance.randint(1, 6)))
            first = chance.choice((0, 0, chance.randint(0, 40)))
            wide = chance.choice((0, 1, 3, 8, 20, chance.randint(0, 20)))
            shares.append((chance.randint(1, 6), pieces, first, wide))
        yield shares, chance.randint(1, 4)
