"""A gang at work in a yard, and its pieces."""

from hotpass.gangs import CLOSER, HEATER


class Crew:
    """A gang as it is now: its hands, who is with them, its rest, its throws and its closings."""

    def __init__(self, number, name, takes, hands):
        self.number = number
        self.name = name
        self.takes = list(takes)
        self.hands = list(hands)
        # The beat from which on it doesn't rest.
        self.rested = 0
        self.throws = 0
        self.closings = 0
        # What was told ahead of its throws and of its holes.
        self.missing = {}
        self.wanted = {}
        # For each kind of hand the pieces that are with it.
        self.rows = [[], [], [], []]

    def copied(self):
        """A crew of its own that is alike, but with no piece."""
        other = Crew(self.number, self.name, self.takes, self.hands)
        other.rested = self.rested
        other.throws = self.throws
        other.closings = self.closings
        other.missing = dict(self.missing)
        other.wanted = dict(self.wanted)
        return other

    def is_free(self, kind):
        """Whether there is a hand of that kind for one piece more."""
        return len(self.rows[kind]) < self.hands[kind]

    def foremost(self, kind):
        """Of the pieces with that kind the one that has been there longest."""
        return min(self.rows[kind], key=lambda piece: (piece.begun, piece.number))

    def passes_at(self, kind):
        """The beat from which on a piece may begin with that kind; None where it waits for others."""
        if not self.is_free(kind) or not self.rows[kind - 1]:
            return None
        return max(self.rested, self.foremost(kind - 1).over)

    def draws_at(self, piece):
        """The beat from which on a piece in the fire may be drawn; None where it won't be."""
        beat = max(self.rested, piece.first)
        if not self.is_free(HEATER) or (piece.last is not None and beat > piece.last):
            return None
        return beat

    def next_throw(self):
        """Makes the next throw; tells whether it is missed."""
        self.throws += 1
        return self.throws - 1 in self.missing


class Piece:
    """A piece: where it is, and since when."""

    def __init__(self, number, crew):
        self.number = number
        self.crew = crew
        # In the fire it is hot from first to last, last None for ever.
        self.place = "fire"
        self.first = 0
        self.last = None
        # With a hand of that kind since it has begun there; its take is over then.
        self.kind = HEATER
        self.begun = 0
        self.over = 0
        self.drawn = 0
        self.hole = 0
        # How often it was put in the fire again.
        self.again = 0
        # On the heap: the word of its happening.
        self.word = ""

    def copied(self, crew):
        """A piece of its own that is alike, of another crew."""
        other = Piece(self.number, crew)
        other.place = self.place
        other.first, other.last = self.first, self.last
        other.kind = self.kind
        other.begun, other.over, other.drawn = self.begun, self.over, self.drawn
        other.hole = self.hole
        other.again = self.again
        other.word = self.word
        return other

    def lies(self):
        """Where it is, as a yard tells it."""
        if self.place == "fire":
            return ("fire", self.first, self.last)
        if self.place == "hand":
            return ("hand", self.crew.name, self.kind, self.begun)
        if self.place == "hole":
            return ("hole", self.crew.name, self.hole)
        return ("heap", self.word)

    def lay_in_fire(self, first, last):
        self.place = "fire"
        self.first = first
        self.last = last

    def lay_on_heap(self, word):
        self.place = "heap"
        self.word = word

    def leave_hand(self):
        self.crew.rows[self.kind].remove(self)

    def begin(self, kind, beat):
        """Begins with a hand of that kind; it takes as long as such a hand takes now."""
        crew = self.crew
        self.place = "hand"
        self.kind = kind
        self.begun = beat
        self.over = beat + crew.takes[kind]
        if kind == HEATER:
            self.drawn = beat
        if kind == CLOSER:
            # Holes are filled in the order in which closings begin.
            self.hole = crew.closings
            self.over += crew.wanted.get(self.hole, 0)
            crew.closings += 1
        crew.rows[kind].append(self)
