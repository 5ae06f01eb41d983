"""What's kept: people, families, the next number, and who waits."""

from kinfolds.refusals import LIVES_NOT, WAITS

# The two sorts of children, told apart as the questions tell them.
PERSON = 0
FAMILY = 1

DEEPEST = 40


class Person:
    def __init__(self, family, serial):
        self.family = family
        self.serial = serial


class Family:
    """children: by serial, a pair of the sort and the id or number."""

    def __init__(self, parent, serial, next_serial):
        self.parent = parent
        self.serial = serial
        self.next_serial = next_serial
        self.children = {}


class Wait:
    def __init__(self, kind, place, number):
        self.kind = kind
        self.place = place
        self.number = number


class Kept:
    """people and waits are kept by id, families by number; the waits stand in order of coming."""

    def __init__(self):
        self.people = {}
        self.families = {}
        self.waits = {}
        self.next_number = 1

    def become(self, other):
        """Keeps what the other keeps, and nothing of what was kept before."""
        self.people = other.people
        self.families = other.families
        self.waits = other.waits
        self.next_number = other.next_number

    def family_of(self, x):
        return self.people[x].family

    def begin_family(self, parent, serial):
        """Begins a family that its first person is still to enter, and gives back its number."""
        number = self.next_number
        self.put_family(number, parent, serial, 0)
        self.next_number = number + 1
        return number

    def put_family(self, number, parent, serial, next_serial):
        self.families[number] = Family(parent, serial, next_serial)
        if parent != 0:
            self.families[parent].children[serial] = (FAMILY, number)

    def enter(self, x, number):
        family = self.families[number]
        serial = family.next_serial
        family.next_serial = serial + 1
        self.put(x, number, serial)

    def put(self, x, number, serial):
        self.families[number].children[serial] = (PERSON, x)
        self.people[x] = Person(number, serial)

    def take_out(self, x):
        person = self.people.pop(x)
        self.families[person.family].children.pop(person.serial)

    def let_go(self, number):
        """The family goes if it has no children, and then those it stands in, as far as they have none left."""
        while number != 0 and len(self.families[number].children) == 0:
            family = self.families.pop(number)
            if family.parent != 0:
                self.families[family.parent].children.pop(family.serial)
            number = family.parent

    def children_of(self, number):
        """For each child, by rising serials: the serial, the sort, and the id or number."""
        children = self.families[number].children
        return [(serial, children[serial][0], children[serial][1]) for serial in sorted(children)]

    def families_around(self, number):
        """The number of the family itself, of its parent, of that one's parent, and so on."""
        around = []
        while number != 0:
            around.append(number)
            number = self.families[number].parent
        return around

    def depth(self, number):
        return len(self.families_around(number))

    def hindrance(self, x):
        """The refusal that's due where x must live and not wait, or 0."""
        if x not in self.people:
            return LIVES_NOT
        if x in self.waits:
            return WAITS
        return 0
