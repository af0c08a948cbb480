"""Takes the joined units, with their faces, from a shelf."""

from joinmill.errors import NoJoin


def things_of(shelf, head):
    answer = shelf.joined(head)
    if answer[0] != "order":
        raise NoJoin(f"from {head!r} nothing is joined: {answer!r}")
    return tuple([(shelf.face_of(name), shelf.unit_of(name)) for name in answer[1]])
