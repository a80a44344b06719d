"""Plans by which pieces are asked, and by when a gang can close pieces."""

# Where a piece has waited longest, kinds that don't bind were waited for at most three
# times, four pieces ahead at most each time: among as many such waits as the binding
# kind has hands some reach together over a multiple of those hands, and waiting for
# the binding kind instead reaches as far and is no shorter.
REACH_OF_OTHERS = 12


def few_waits(gang, most):
    """For each piece up to number most the beats that it waits in all, where all are asked at 0."""
    waits = [0]
    for number in range(1, most + 1):
        # A piece waits a take for the one that is as many ahead of it as there are hands.
        behind = [waits[number - many] + take for take, many in zip(gang.takes, gang.hands) if many <= number]
        waits.append(max([waits[number - 1]] + behind))
    return waits


def waits_of(gang, number):
    """The beats that a piece waits in all, where all are asked at 0."""
    kind = gang.binds()[0]
    rounds = max(0, number - REACH_OF_OTHERS) // gang.hands[kind]
    rest = number - rounds * gang.hands[kind]
    return few_waits(gang, rest)[rest] + rounds * gang.takes[kind]


def least_end(gang, many):
    """The least beat by which so many pieces can all be closed, the first drawn at 0 or later."""
    return sum(gang.takes) + waits_of(gang, many - 1)


def asked_at(plan, number, first=0):
    """The beat at which the plan asks for the piece of that number."""
    beats, pieces = plan
    return first + number * beats // pieces


def asks_of(plan, many, first=0):
    """The list of the beats at which the plan asks for the first many pieces."""
    return [asked_at(plan, number, first) for number in range(many)]


def keeps(gang, plan):
    """Whether the gang can pass pieces by the plan for ever."""
    beats, pieces = plan
    top, bottom = gang.pace()
    return beats * bottom >= top * pieces
