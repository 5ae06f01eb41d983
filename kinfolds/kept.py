"""What's kept: people, families, the next number, and who waits."""

from kinfolds.refusals import LIVES_NOT, WAITS

# The two sorts of children, told apart as the questions tell them.
PERSON = 0
FAMILY = 1


class Person:
    def __init__(self, family, serial):
        self.family = family
        self.serial = serial


class Family:
    """children: by serial, a pair of the sort and the id or number.

    A serial is either new, and then the greatest, or taken over in its place: so they stand by rising serials.
    """

    def __init__(self, parent, serial):
        self.parent = parent
        self.serial = serial
        self.next_serial = 0
        self.children = {}


class Wait:
    def __init__(self, kind, place, number):
        self.kind = kind
        self.place = place
        self.number = number


class Kept:
    """people and waits are kept by id, families by number; the waits stand in order of coming."""

    def __init__(self):
        self.people = {}
        self.families = {}
        self.waits = {}
        self.next_number = 1

    def family_of(self, x):
        return self.people[x].family

    def begin_family(self, parent, serial):
        number = self.next_number
        self.families[number] = Family(parent, serial)
        self.next_number = number + 1
        return number

    def enter(self, x, number):
        family = self.families[number]
        serial = family.next_serial
        family.next_serial = serial + 1
        self.put(x, number, serial)

    def put(self, x, number, serial):
        self.families[number].children[serial] = (PERSON, x)
        self.people[x] = Person(number, serial)

    def take_out(self, x):
        person = self.people.pop(x)
        self.families[person.family].children.pop(person.serial)

    def let_go(self, number):
        """The family goes if it has no children, and then those it stands in, as far as they have none left."""
        while number != 0 and len(self.families[number].children) == 0:
            family = self.families.pop(number)
            if family.parent != 0:
                self.families[family.parent].children.pop(family.serial)
            number = family.parent

    def depth(self, number):
        steps = 0
        while number != 0:
            steps = steps + 1
            number = self.families[number].parent
        return steps

    def hindrance(self, x):
        """The refusal that's due where x must live and not wait, or 0."""
        if x not in self.people:
            return LIVES_NOT
        if x in self.waits:
            return WAITS
        return 0
