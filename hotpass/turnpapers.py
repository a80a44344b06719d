"""Papers which show that by no turns at a fire fewer pieces burn."""

from hotpass.checks import is_number
from hotpass.turns import turns


def full_beats(wishes, drawn):
    """The rising beats at which a burnt piece could be drawn, or one that is drawn at such a beat.

    At each of them as many are drawn as can be: else one more piece could be drawn at
    all, and turns leave no such choice. So there are never more of them than pieces.
    """
    drawn_at = {}
    for number, beat in enumerate(drawn):
        drawn_at[beat] = drawn_at.get(beat, []) + [number]
    waiting = drawn_at.get(None, [])
    full = set()
    while waiting:
        first, last = wishes[waiting.pop()]
        for beat in range(first, last + 1):
            if beat not in full:
                full.add(beat)
                waiting.extend(drawn_at[beat])
    return sorted(full)


def burnt_paper(wishes, mouth=1):
    """Stretches on whose beats there are as many wishes too many as pieces burn."""
    stretches = []
    for beat in full_beats(wishes, turns(wishes, mouth)):
        if stretches and stretches[-1][1] == beat:
            stretches[-1] = (stretches[-1][0], beat + 1)
        else:
            stretches.append((beat, beat + 1))
    return stretches


def are_turns(wishes, mouth, thing):
    """Whether it has for each wish a beat that it may have, or None, and no beat too often."""
    if not isinstance(thing, list) or len(thing) != len(wishes):
        return False
    often = {}
    for (first, last), beat in zip(wishes, thing):
        if beat is None:
            continue
        if not is_number(beat, first, last):
            return False
        often[beat] = often.get(beat, 0) + 1
    return all([many <= mouth for many in often.values()])


def are_stretches(thing):
    """Whether it is a list of stretches, each behind the one ahead."""
    if not isinstance(thing, list):
        return False
    least = 0
    for pair in thing:
        if not isinstance(pair, tuple) or len(pair) != 2:
            return False
        first, behind = pair
        if not is_number(first, least) or not is_number(behind, first + 1):
            return False
        least = behind
    return True


def is_within(wish, stretches):
    return any([first <= wish[0] and wish[1] < behind for first, behind in stretches])


def too_many(wishes, mouth, stretches):
    """How many more wishes lie within stretches than can be drawn on their beats."""
    within = [wish for wish in wishes if is_within(wish, stretches)]
    return len(within) - mouth * sum([behind - first for first, behind in stretches])


def shows_turns(wishes, mouth, told, thing):
    """Whether told are turns by which as few burn as can be, which thing, a list of stretches, shows."""
    if not are_turns(wishes, mouth, told) or not are_stretches(thing):
        return False
    return too_many(wishes, mouth, thing) == told.count(None)
