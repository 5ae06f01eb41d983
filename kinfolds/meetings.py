"""The calls by which kin wait for one another: assemble, gather, match, muster, recall."""

from kinfolds.kept import PERSON, Wait
from kinfolds.refusals import LIVES_NOT, NOT_AS_IT_IS

ASSEMBLE = 1
GATHER = 2
MATCH = 3
MUSTER = 4


def come_to_wait(kept, x, kind, place, number):
    kept.waits[x] = Wait(kind, place, number)


def set_off(kept, ids):
    """Gives back what's answered of those who are set off; not all of them need have waited."""
    for x in ids:
        if x in kept.waits:
            kept.waits.pop(x)
    return [len(ids)] + ids


def kin_at(kept, x, kind, place):
    """Those of x's family who wait by this kind at this place, in order of coming."""
    number = kept.family_of(x)
    kin = []
    for y, wait in kept.waits.items():
        if kept.family_of(y) == number and wait.kind == kind and wait.place == place:
            kin.append(y)
    return kin


def assemble(kept, x, place, count):
    refusal = kept.hindrance(x)
    if refusal != 0:
        return [refusal]
    firsts = kin_at(kept, x, ASSEMBLE, place)
    if len(firsts) > 0:
        return [2] + absorb(kept, x, firsts[0])
    if count == 1:
        return [0] + set_off(kept, [x])
    come_to_wait(kept, x, ASSEMBLE, place, count - 1)
    return [1]


def absorb(kept, x, first):
    # x's family keeps at least the one who waits, so it doesn't go.
    kept.take_out(x)
    wait = kept.waits[first]
    wait.number = wait.number - 1
    if wait.number == 0:
        return set_off(kept, [first])
    return set_off(kept, [])


def gather(kept, x, place, count):
    refusal = kept.hindrance(x)
    if refusal != 0:
        return [refusal]
    group = kin_at(kept, x, GATHER, place)
    need = count
    if len(group) > 0:
        need = kept.waits[group[0]].number
    if len(group) + 1 == need:
        return [0] + set_off(kept, group + [x])
    come_to_wait(kept, x, GATHER, place, need)
    return [1]


def match_pair(kept, x, place, other_place):
    refusal = kept.hindrance(x)
    if refusal != 0:
        return [refusal]
    fitting = partners(kept, x, place, other_place)
    if len(fitting) > 0:
        return [0] + set_off(kept, [fitting[0], x])
    come_to_wait(kept, x, MATCH, place, other_place)
    return [1]


def partners(kept, x, place, other_place):
    """Those of x's family who wait at the other place for one at this place, in order of coming."""
    return [y for y in kin_at(kept, x, MATCH, other_place) if kept.waits[y].number == place]


def muster(kept, x, place):
    refusal = kept.hindrance(x)
    if refusal != 0:
        return [refusal]
    come_to_wait(kept, x, MUSTER, place, 0)
    mustered = all_mustered(kept)
    if len(mustered) == 0:
        return [1]
    return [0] + set_off(kept, mustered)


def all_mustered(kept):
    """Those of the family that's all there, in order of coming; it can be one family at the most."""
    for number in kept.families:
        if is_all_there(kept, number):
            return [x for x in kept.waits if kept.family_of(x) == number]
    return []


def is_all_there(kept, number):
    places = []
    for child in kept.families[number].children.values():
        if child[0] != PERSON or child[1] not in kept.waits:
            return False
        wait = kept.waits[child[1]]
        if wait.kind != MUSTER:
            return False
        places.append(wait.place)
    return len(set(places)) == 1


def recall(kept, x):
    if x not in kept.people:
        return [LIVES_NOT]
    if x not in kept.waits:
        return [NOT_AS_IT_IS]
    kept.waits.pop(x)
    return [0, 0]
