"""The questions, which change nothing: person, family."""

from kinfolds.kept import PERSON
from kinfolds.refusals import LIVES_NOT, NO_SUCH_FAMILY


def tell_person(kept, x):
    if x not in kept.people:
        return [LIVES_NOT]
    person = kept.people[x]
    if x not in kept.waits:
        return [person.family, person.serial, 0, 0, 0]
    wait = kept.waits[x]
    return [person.family, person.serial, wait.kind, wait.place, wait.number]


def tell_family(kept, number):
    if number not in kept.families:
        return [NO_SUCH_FAMILY]
    family = kept.families[number]
    people = len([child for child in family.children.values() if child[0] == PERSON])
    within = len(family.children) - people
    return [family.parent, family.serial, family.next_serial, people, within, count_held(kept, number)]


def count_held(kept, number):
    held = 0
    to_do = [number]
    while len(to_do) > 0:
        family = kept.families[to_do.pop()]
        for child in family.children.values():
            if child[0] == PERSON:
                held = held + 1
            else:
                to_do.append(child[1])
    return held
