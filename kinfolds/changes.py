"""The calls by which people and families come, move and go: born, split, found, close, adopt, leave."""

from kinfolds.forms import in_range
from kinfolds.kept import DEEPEST
from kinfolds.meetings import all_mustered, set_off
from kinfolds.refusals import BAD_LIST, LIVES_ALREADY, NO_SUCH_FAMILY, NOT_AS_IT_IS, OWN_FAMILY, TOO_DEEP

MOST_IDS = 100


def born(kept, x):
    if x in kept.people:
        return [LIVES_ALREADY]
    kept.enter(x, kept.begin_family(0, 0))
    return [0, 0]


def is_list_of_ids(ids):
    if not 1 <= len(ids) <= MOST_IDS:
        return False
    for y in ids:
        if not in_range("person", y):
            return False
    return len(set(ids)) == len(ids)


def split_off(kept, x, ids):
    if not is_list_of_ids(ids):
        return [BAD_LIST]
    refusal = kept.hindrance(x)
    if refusal != 0:
        return [refusal]
    for y in ids:
        if y in kept.people:
            return [LIVES_ALREADY]
    for y in ids:
        kept.enter(y, kept.family_of(x))
    return [0, 0]


def found_within(kept, x):
    refusal = kept.hindrance(x)
    if refusal != 0:
        return [refusal]
    outer = kept.family_of(x)
    if kept.depth(outer) == DEEPEST:
        return [TOO_DEEP]
    # The new family stands where x stood, with x's serial.
    kept.enter(x, kept.begin_family(outer, kept.people[x].serial))
    return [0, 0]


def close_family(kept, x):
    refusal = kept.hindrance(x)
    if refusal != 0:
        return [refusal]
    number = kept.family_of(x)
    family = kept.families[number]
    if family.parent == 0 or len(family.children) > 1:
        return [NOT_AS_IT_IS]
    kept.put(x, family.parent, family.serial)
    kept.families.pop(number)
    return [0, 0]


def adopt(kept, x, number):
    refusal = kept.hindrance(x)
    if refusal != 0:
        return [refusal]
    if number not in kept.families:
        return [NO_SUCH_FAMILY]
    old = kept.family_of(x)
    if old == number:
        return [OWN_FAMILY]
    kept.take_out(x)
    # x enters first: the new family may be one that the old one stands in, and must not go with it.
    kept.enter(x, number)
    kept.let_go(old)
    return [0] + set_off(kept, all_mustered(kept))


def leave(kept, x):
    refusal = kept.hindrance(x)
    if refusal != 0:
        return [refusal]
    old = kept.family_of(x)
    kept.take_out(x)
    kept.let_go(old)
    return [0] + set_off(kept, all_mustered(kept))
