"""A yard: a fire, gangs and pieces, that goes by beats or by leaps."""

from hotpass.checks import is_number
from hotpass.crews import Crew, Piece
from hotpass.errors import Begun, KnownGang, NoGang, NoPiece, TooMany
from hotpass.gangs import CLOSER, HEATER, HOLDER, check_kind, replaced
from hotpass.metals import Metal

MOST_GANGS = 6
MOST_PIECES = 150


def by_number(pieces):
    return sorted(pieces, key=lambda piece: piece.number)


def turn_of(piece):
    # In one yard either all pieces in the fire have a last or none has.
    return (0 if piece.last is None else piece.last, piece.number)


class Yard:
    """A fire, gangs and their pieces at a beat, of which nothing has happened yet."""

    def __init__(self, metal, soak, burn=None, mouth=1, rounds=0):
        self.metal = Metal(metal.full, metal.least, metal.losses, metal.air)
        self.hot_for = metal.life()
        self.soak = soak
        self.burn = burn
        self.mouth = mouth
        self.rounds = rounds
        self.at = 0
        self.crews = []
        self.pieces = []
        # Those of the pieces that lie in the fire.
        self.fire = []

    def __len__(self):
        return len(self.pieces)

    def joins(self, gang):
        """A gang comes, behind the others."""
        if gang.name in self.names():
            raise KnownGang(gang.name)
        if len(self.crews) >= MOST_GANGS:
            raise TooMany(MOST_GANGS)
        self.crews.append(Crew(len(self.crews), gang.name, gang.takes, gang.hands))

    def put(self, name, many=1):
        """So many pieces are put in the fire for that gang."""
        crew = self.crew_of(name)
        if len(self.pieces) + many > MOST_PIECES:
            raise TooMany(MOST_PIECES)
        first = len(self.pieces)
        for number in range(first, first + many):
            piece = Piece(number, crew)
            self.pieces.append(piece)
            self.put_in_fire(piece)

    def slow(self, name, hole, more):
        """The gang's hole of that number wants so many beats more than its take."""
        crew = self.crew_of(name)
        if hole < crew.closings:
            raise Begun(hole)
        crew.wanted[hole] = more

    def miss(self, name, throw):
        """The gang's throw of that number is missed."""
        crew = self.crew_of(name)
        if throw < crew.throws:
            raise Begun(throw)
        crew.missing[throw] = True

    def rest(self, name, beats):
        """From now on, for so many beats, none of the gang's pieces begins with any hand."""
        crew = self.crew_of(name)
        crew.rested = self.at + beats

    def paced(self, name, kind, beats):
        """From now on that kind of the gang's hands takes so long."""
        crew = self.crew_of(name)
        crew.takes = replaced(crew.takes, kind, beats)

    def manned(self, name, kind, many):
        """From now on the gang has so many hands of that kind."""
        crew = self.crew_of(name)
        crew.hands = replaced(crew.hands, kind, many)

    def beat(self):
        """Goes through this beat; tells what happens in it."""
        told = self.close() + self.let_go() + self.let_burn()
        for crew in self.crews:
            told.extend(self.pass_on(crew))
        told.extend(self.draw())
        self.at += 1
        return told

    def go(self, beats):
        """Goes through so many beats; tells what happens in them."""
        end = self.at + beats
        told = []
        found = self.leap_ahead_of(end)
        while found:
            told.extend(found)
            found = self.leap_ahead_of(end)
        self.at = end
        return told

    def leap(self):
        """Goes on to the next beat in which anything happens, and through it; tells what happens."""
        return self.leap_ahead_of(None)

    def leap_ahead_of(self, end):
        """Leaps, but stays where that would lead to end or behind it; where end is None, it leaps anyway."""
        due = self.next_due()
        if due is None or (end is not None and due >= end):
            return []
        self.at = due
        return self.beat()

    def now(self):
        return self.at

    def names(self):
        """The list of the gangs' names, in order."""
        return [crew.name for crew in self.crews]

    def where(self, piece):
        """Where the piece of that number is."""
        if not is_number(piece, 0, len(self.pieces) - 1):
            raise NoPiece(piece)
        return self.pieces[piece].lies()

    def counts(self):
        """How many pieces lie in the fire, in hands, in holes, on the heap."""
        places = [piece.place for piece in self.pieces]
        return (places.count("fire"), places.count("hand"), places.count("hole"), places.count("heap"))

    def holding(self, name, kind):
        """The rising list of the pieces with that kind of the gang's hands."""
        crew = self.crew_of(name)
        check_kind(kind)
        return sorted([piece.number for piece in crew.rows[kind]])

    def takes_of(self, name):
        """The takes and the hands of the gang as it is now."""
        crew = self.crew_of(name)
        return (tuple(crew.takes), tuple(crew.hands))

    def like(self):
        """A yard of its own that tells the same."""
        other = Yard(self.metal, self.soak, self.burn, self.mouth, self.rounds)
        other.at = self.at
        other.crews = [crew.copied() for crew in self.crews]
        for piece in list(self.pieces):
            other.take_in(piece.copied(other.crews[piece.crew.number]))
        return other

    def take_in(self, piece):
        """Takes in a piece that is in some place already."""
        self.pieces.append(piece)
        if piece.place == "fire":
            self.fire.append(piece)
        if piece.place == "hand":
            piece.crew.rows[piece.kind].append(piece)

    def crew_of(self, name):
        for crew in self.crews:
            if crew.name == name:
                return crew
        raise NoGang(name)

    def put_in_fire(self, piece):
        first = self.at + self.soak
        piece.lay_in_fire(first, None if self.burn is None else first + self.burn)
        self.fire.append(piece)

    def in_hands(self):
        """The pieces with the kinds ahead of the closer."""
        return [piece for crew in self.crews for row in crew.rows[:CLOSER] for piece in row]

    def in_closing(self):
        return [piece for crew in self.crews for piece in crew.rows[CLOSER]]

    def close(self):
        """The pieces whose closing is over lie in their holes."""
        told = []
        over = by_number([piece for piece in self.in_closing() if piece.over <= self.at])
        for piece in over:
            piece.leave_hand()
            piece.place = "hole"
            told.append((self.at, "closed", piece.number, piece.hole))
        return told

    def cold_at(self, piece):
        return piece.drawn + self.hot_for + 1

    def let_go(self):
        """The pieces that are too cold go back to the fire, or on the heap."""
        if self.hot_for is None:
            return []
        told = []
        cold = by_number([piece for piece in self.in_hands() if self.cold_at(piece) <= self.at])
        for piece in cold:
            piece.leave_hand()
            if piece.again < self.rounds:
                piece.again += 1
                self.put_in_fire(piece)
            else:
                piece.lay_on_heap("cold")
            told.append((self.at, "cold", piece.number))
        return told

    def let_burn(self):
        """The pieces that are burnt now go on the heap."""
        told = []
        burnt = by_number([piece for piece in self.fire if piece.last is not None and piece.last < self.at])
        for piece in burnt:
            self.fire.remove(piece)
            piece.lay_on_heap("burnt")
            told.append((self.at, "burnt", piece.number))
        return told

    def pass_on(self, crew):
        """The gang's pieces begin with the next hands, as far as they can."""
        told = []
        for kind in range(CLOSER, HEATER, -1):
            while self.is_due(crew.passes_at(kind)):
                piece = crew.foremost(kind - 1)
                piece.leave_hand()
                if kind == HOLDER and crew.next_throw():
                    piece.lay_on_heap("missed")
                    told.append((self.at, "missed", piece.number))
                else:
                    piece.begin(kind, self.at)
                    told.append((self.at, "passed", piece.number, kind))
        return told

    def draw(self):
        """As many hot pieces as can be are drawn, the ones of the least last."""
        told = []
        while len(told) < self.mouth:
            hot = [piece for piece in self.fire if self.is_due(piece.crew.draws_at(piece))]
            if not hot:
                break
            piece = min(hot, key=turn_of)
            self.fire.remove(piece)
            piece.begin(HEATER, self.at)
            told.append((self.at, "drawn", piece.number))
        return told

    def is_due(self, beat):
        return beat is not None and beat <= self.at

    def next_due(self):
        """The next beat in which anything happens; None where nothing will happen any more.

        Up to there nothing changes, so that each thing that may happen comes at a beat
        which follows of how all is now.
        """
        dues = [piece.over for piece in self.in_closing()]
        if self.hot_for is not None:
            dues.extend([self.cold_at(piece) for piece in self.in_hands()])
        if self.burn is not None:
            dues.extend([piece.last + 1 for piece in self.fire])
        dues.extend([crew.passes_at(kind) for crew in self.crews for kind in range(HEATER + 1, CLOSER + 1)])
        dues.extend([piece.crew.draws_at(piece) for piece in self.fire])
        known = [due for due in dues if due is not None]
        if not known:
            return None
        return max(self.at, min(known))
