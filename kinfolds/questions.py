"""The questions about people and families, which change nothing: person, family, members, path, kin, line, alike."""

from kinfolds.kept import FAMILY, PERSON
from kinfolds.refusals import LIVES_NOT, NO_SUCH_FAMILY


def tell_person(kept, x):
    if x not in kept.people:
        return [LIVES_NOT]
    person = kept.people[x]
    if x not in kept.waits:
        return [person.family, person.serial, 0, 0, 0]
    wait = kept.waits[x]
    return [person.family, person.serial, wait.kind, wait.place, wait.number]


def tell_family(kept, number):
    if number not in kept.families:
        return [NO_SUCH_FAMILY]
    family = kept.families[number]
    people = len([child for child in family.children.values() if child[0] == PERSON])
    within = len(family.children) - people
    return [family.parent, family.serial, family.next_serial, people, within, len(people_held(kept, number))]


def tell_members(kept, number):
    if number not in kept.families:
        return [NO_SUCH_FAMILY]
    children = kept.children_of(number)
    answer = [len(children)]
    for child in children:
        answer.extend(child)
    return answer


def tell_path(kept, x):
    if x not in kept.people:
        return [LIVES_NOT]
    around = kept.families_around(kept.family_of(x))
    return [len(around)] + around


def tell_kin(kept, x, y):
    if x not in kept.people or y not in kept.people:
        return [LIVES_NOT]
    around = kept.families_around(kept.family_of(y))
    for number in kept.families_around(kept.family_of(x)):
        if number in around:
            return [number]
    return [0]


def tell_line(kept, number):
    if number not in kept.families:
        return [NO_SUCH_FAMILY]
    people = people_held(kept, number)
    return [len(people)] + people


def people_held(kept, number):
    """The ids of those whom the family holds, through its children by rising serials."""
    people = []
    to_do = [(0, FAMILY, number)]
    while len(to_do) > 0:
        child = to_do.pop()
        if child[1] == PERSON:
            people.append(child[2])
        else:
            # The first child is to come next, so it's put on last.
            to_do.extend(kept.children_of(child[2])[::-1])
    return people


def tell_alike(kept, number, other):
    if number not in kept.families or other not in kept.families:
        return [NO_SUCH_FAMILY]
    shapes = all_shapes(kept)
    if shapes[number] == shapes[other]:
        return [1]
    return [0]


def all_shapes(kept):
    """A number for each family, the same one for families of the same shape."""
    shapes = {}
    known = {}
    # A family has a greater number than the one it stands in, so those within have their shapes first.
    for number in sorted(kept.families, reverse=True):
        makeup = makeup_of(kept, number, shapes)
        shapes[number] = known.setdefault(makeup, len(known))
    return shapes


def makeup_of(kept, number, shapes):
    """How many people belong to the family, and the shapes of the families within it, whatever their order."""
    children = list(kept.families[number].children.values())
    within = [shapes[child[1]] for child in children if child[0] == FAMILY]
    return tuple([len(children) - len(within)] + sorted(within))
