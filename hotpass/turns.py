"""Turns of many pieces at one fire."""


def turns(wishes, mouth=1):
    """For each wish the beat at which its piece is drawn, None where it burns."""
    drawn = [None] * len(wishes)
    coming = sorted([(first, last, number) for number, (first, last) in enumerate(wishes)])
    came = 0
    hot = []
    beat = 0
    while hot or came < len(coming):
        if not hot:
            # Nothing happens up to the next first, however far it is.
            beat = max(beat, coming[came][0])
        while came < len(coming) and coming[came][0] <= beat:
            hot.append((coming[came][1], coming[came][2]))
            came += 1
        hot = sorted([(last, number) for last, number in hot if last >= beat])
        for last, number in hot[:mouth]:
            drawn[number] = beat
        hot = hot[mouth:]
        beat += 1
    return drawn


def least_mouth(wishes):
    """The least mouth with which none burns."""
    least, most = 1, max(1, len(wishes))
    while least < most:
        middle = (least + most) // 2
        if None in turns(wishes, middle):
            least = middle + 1
        else:
            most = middle
    return least
