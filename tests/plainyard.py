"""A yard that goes beat by beat in the plainest way, against which the tests hold the package's own."""

WORDS = ("closed", "cold", "burnt", "passed", "missed", "drawn")


class PlainYard:
    def __init__(self, metal, soak, burn=None, mouth=1, rounds=0):
        self.life = metal.life()
        self.soak, self.burn, self.mouth, self.rounds = soak, burn, mouth, rounds
        self.t = 0
        self.gangs = {}
        self.all = []

    def joins(self, gang):
        self.gangs[gang.name] = {"takes": list(gang.takes), "hands": list(gang.hands), "rest": 0,
                                 "slow": {}, "miss": set(), "begun": 0, "thrown": 0}

    def lay(self, piece):
        first = self.t + self.soak
        piece["at"] = ("fire", first, None if self.burn is None else first + self.burn)

    def put(self, name, many=1):
        for _ in range(many):
            piece = {"number": len(self.all), "gang": name, "puts": 0}
            self.all.append(piece)
            self.lay(piece)

    def slow(self, name, hole, more):
        if hole >= self.gangs[name]["begun"]:
            self.gangs[name]["slow"][hole] = more

    def miss(self, name, throw):
        if throw >= self.gangs[name]["thrown"]:
            self.gangs[name]["miss"].add(throw)

    def rest(self, name, beats):
        self.gangs[name]["rest"] = self.t + beats

    def paced(self, name, kind, beats):
        self.gangs[name]["takes"][kind] = beats

    def manned(self, name, kind, many):
        self.gangs[name]["hands"][kind] = many

    def with_kind(self, name, kind):
        """The pieces with that kind, the one that has been there longest first."""
        found = [piece for piece in self.all if piece["at"][:3] == ("hand", name, kind)]
        return sorted(found, key=lambda piece: (piece["at"][3], piece["number"]))

    def begins(self, piece, kind):
        gang = self.gangs[piece["gang"]]
        piece["at"] = ("hand", piece["gang"], kind, self.t)
        piece["over"] = self.t + gang["takes"][kind]
        if kind == 0:
            piece["drawn"] = self.t
        if kind == 3:
            piece["hole"] = gang["begun"]
            piece["over"] += gang["slow"].get(gang["begun"], 0)
            gang["begun"] += 1

    def kind_of(self, piece):
        return piece["at"][2] if piece["at"][0] == "hand" else None

    def ends(self):
        """What comes first in a beat: closed, cold, burnt."""
        for piece in self.all:
            if self.kind_of(piece) == 3 and piece["over"] == self.t:
                piece["at"] = ("hole", piece["gang"], piece["hole"])
                yield (self.t, "closed", piece["number"], piece["hole"])
        for piece in self.all:
            if self.kind_of(piece) in (0, 1, 2) and self.life is not None and self.t - piece["drawn"] > self.life:
                if piece["puts"] < self.rounds:
                    piece["puts"] += 1
                    self.lay(piece)
                else:
                    piece["at"] = ("heap", "cold")
                yield (self.t, "cold", piece["number"])
        for piece in self.all:
            if piece["at"][0] == "fire" and piece["at"][2] is not None and piece["at"][2] + 1 == self.t:
                piece["at"] = ("heap", "burnt")
                yield (self.t, "burnt", piece["number"])

    def passes(self, name):
        gang = self.gangs[name]
        for kind in (3, 2, 1):
            while len(self.with_kind(name, kind)) < gang["hands"][kind]:
                behind = self.with_kind(name, kind - 1)
                if not behind or behind[0]["over"] > self.t:
                    break
                piece = behind[0]
                if kind == 2:
                    gang["thrown"] += 1
                    if gang["thrown"] - 1 in gang["miss"]:
                        piece["at"] = ("heap", "missed")
                        yield (self.t, "missed", piece["number"])
                        continue
                self.begins(piece, kind)
                yield (self.t, "passed", piece["number"], kind)

    def draws(self):
        for _ in range(self.mouth):
            hot = []
            for piece in self.all:
                gang = self.gangs[piece["gang"]]
                if piece["at"][0] == "fire" and piece["at"][1] <= self.t and gang["rest"] <= self.t:
                    if len(self.with_kind(piece["gang"], 0)) < gang["hands"][0]:
                        last = float("inf") if piece["at"][2] is None else piece["at"][2]
                        hot.append((last, piece["number"]))
            if hot:
                number = min(hot)[1]
                self.begins(self.all[number], 0)
                yield (self.t, "drawn", number)

    def beat(self):
        told = list(self.ends())
        for name, gang in self.gangs.items():
            if gang["rest"] <= self.t:
                told += self.passes(name)
        told += self.draws()
        self.t += 1
        return told

    def where(self, number):
        return self.all[number]["at"]

    def counts(self):
        places = [piece["at"][0] for piece in self.all]
        return tuple([places.count(place) for place in ("fire", "hand", "hole", "heap")])

    def holding(self, name, kind):
        return sorted([piece["number"] for piece in self.with_kind(name, kind)])

    def takes_of(self, name):
        return (tuple(self.gangs[name]["takes"]), tuple(self.gangs[name]["hands"]))


def some_deed(chance, names, most=9):
    """A deed (method, arguments) for one of the gangs of these names."""
    name = chance.choice(names)
    kind = chance.randint(0, 3)
    return chance.choice((
        ("put", name, chance.randint(1, 3)), ("put", name, 1), ("miss", name, chance.randint(0, 12)),
        ("slow", name, chance.randint(0, 12), chance.randint(0, 15)), ("rest", name, chance.choice((0, 1, 3, most * 2))),
        ("paced", name, kind, chance.randint(1, most)), ("manned", name, kind, chance.choice((0, 1, 1, 2, 4)))))


def some_night(chance, gangs):
    """A list of (beat, deed), rising: gangs come and pieces are put, then anything."""
    night = [(0, ("joins", gang)) for gang in gangs if chance.random() < 0.8] or [(0, ("joins", gangs[0]))]
    names = [deed[1].name for _, deed in night]
    night += [(0, ("put", name, chance.randint(1, 5))) for name in names]
    span = chance.choice((10, 40, 120))
    later = [(chance.randint(0, span), some_deed(chance, names)) for _ in range(chance.randint(0, 25))]
    return night + sorted(later, key=lambda pair: pair[0])


def some_yard(chance, metals):
    """The arguments of a Yard."""
    return (chance.choice(metals), chance.choice((0, 0, 1, 4)), chance.choice((None, 0, 2, 9, 30)),
            chance.randint(1, 4), chance.choice((0, 0, 1, 2, 9)))
