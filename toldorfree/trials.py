"""Trials: deeds that are taken back when a question has been answered."""

from toldorfree.checks import is_listed
from toldorfree.errors import BadDeed

# how many arguments each deed takes
ARGUMENTS = {"rename": (1,), "move": (1,), "hold": (2,), "leave": (1,), "copy": (1,), "put": (1,), "glue": (3, 4),
             "deal": (1,)}


class Trial:
    """A block in which deeds are done on a desk, all of which are taken back at its end."""

    def __init__(self, desk):
        self.desk = desk
        self.done = ()
        self.floor = 0

    def __enter__(self):
        desk = self.desk
        self.done = desk.done
        self.floor = desk.floor
        desk.floor = len(desk.done)
        return desk

    def __exit__(self, kind, value, trace):
        desk = self.desk
        desk.done = self.done
        desk.floor = self.floor


def check_deeds(deeds):
    """Raise BadDeed unless deeds are pairs of the name of a deed and its arguments."""
    if not is_listed(deeds):
        raise BadDeed("deeds")
    for pair in deeds:
        if not is_listed(pair) or len(pair) != 2:
            raise BadDeed("deeds")
        name, arguments = pair
        if not isinstance(name, str) or name not in ARGUMENTS:
            raise BadDeed(name)
        if not is_listed(arguments) or len(arguments) not in ARGUMENTS[name]:
            raise BadDeed(name)


def do_deed(desk, name, arguments):
    """Do the deed name on the desk."""
    if name == "rename":
        desk.rename(arguments[0])
    elif name == "move":
        desk.move(arguments[0])
    elif name == "hold":
        desk.hold(arguments[0], arguments[1])
    elif name == "leave":
        desk.leave(arguments[0])
    elif name == "copy":
        desk.copy(arguments[0])
    elif name == "put":
        desk.put(arguments[0])
    elif name == "glue":
        called = arguments[3] if len(arguments) == 4 else None
        desk.glue(arguments[0], arguments[1], arguments[2], names=called)
    else:
        desk.deal(arguments[0])


def tried(desk, deeds, question):
    """What question answers when the deeds have been done on the desk, in a trial."""
    check_deeds(deeds)
    with Trial(desk) as held:
        for name, arguments in deeds:
            do_deed(held, name, arguments)
        return question(held)
