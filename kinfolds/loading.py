"""The calls that put something else in the place of all that's kept: load, clear."""

from kinfolds.forms import in_range
from kinfolds.kept import DEEPEST, FAMILY, PERSON, Kept
from kinfolds.meetings import ASSEMBLE, GATHER, MATCH, MUSTER, all_mustered, come_to_wait, kin_at, partners
from kinfolds.reading import BadForm, Reader, demand
from kinfolds.refusals import BAD_LIST


class Opened:
    """A family whose children are being read: how many are still to come, and the lowest serial for the next."""

    def __init__(self, number, to_come):
        self.number = number
        self.to_come = to_come
        self.lowest_serial = 0


def clear_all(kept):
    kept.become(Kept())
    return [0, 0]


def load(kept, next_number, forest, waits):
    # What's kept stays as it is until all that's told has been looked at.
    fresh = Kept()
    fresh.next_number = next_number
    try:
        read_forest(fresh, forest)
        read_waits(fresh, waits)
    except BadForm:
        return [BAD_LIST]
    kept.become(fresh)
    return [0, 0]


def read_forest(fresh, forest):
    reader = Reader(forest)
    last_root = 0
    while not reader.is_at_end():
        opened = [read_family(fresh, reader, 0, 0)]
        demand(opened[0].number > last_root)
        last_root = opened[0].number
        read_children(fresh, reader, opened)


def read_family(fresh, reader, parent, serial):
    """Reads what's told of a family ahead of its children."""
    head = reader.take_row(3)
    number = head[0]
    # Where the parent is 0, this also asks for a number of 1 or more.
    demand(parent < number < fresh.next_number and number not in fresh.families)
    demand(head[2] >= 1)
    fresh.put_family(number, parent, serial, head[1])
    return Opened(number, head[2])


def read_children(fresh, reader, opened):
    """opened: families within one another, the outermost first, each with children still to come."""
    while len(opened) > 0:
        outer = opened[-1]
        if outer.to_come == 0:
            opened.pop()
        else:
            outer.to_come = outer.to_come - 1
            read_child(fresh, reader, opened)


def read_child(fresh, reader, opened):
    outer = opened[-1]
    serial = reader.take_one()
    demand(outer.lowest_serial <= serial < fresh.families[outer.number].next_serial)
    outer.lowest_serial = serial + 1
    mark = reader.take_one()
    if mark == PERSON:
        x = reader.take_one()
        demand(in_range("person", x) and x not in fresh.people)
        fresh.put(x, outer.number, serial)
    else:
        demand(mark == FAMILY and len(opened) < DEEPEST)
        opened.append(read_family(fresh, reader, outer.number, serial))


def read_waits(fresh, waits):
    reader = Reader(waits)
    while not reader.is_at_end():
        row = reader.take_row(4)
        demand(row[0] in fresh.people and row[0] not in fresh.waits)
        demand(in_range("place", row[2]))
        come_to_wait(fresh, row[0], row[1], row[2], row[3])
    for x in fresh.waits:
        demand(may_wait_so(fresh, x))
    demand(len(all_mustered(fresh)) == 0)


def may_wait_so(fresh, x):
    """Whether x's kind and number are right, and fit to the others of its family; the kin have x among them."""
    wait = fresh.waits[x]
    kin = kin_at(fresh, x, wait.kind, wait.place)
    if wait.kind == ASSEMBLE:
        return 1 <= wait.number <= 999 and len(kin) == 1
    if wait.kind == GATHER:
        unlike = [y for y in kin if fresh.waits[y].number != wait.number]
        return 2 <= wait.number <= 1000 and len(unlike) == 0 and len(kin) < wait.number
    if wait.kind == MATCH:
        others = [y for y in partners(fresh, x, wait.place, wait.number) if y != x]
        return in_range("place", wait.number) and len(others) == 0
    return wait.kind == MUSTER and wait.number == 0
