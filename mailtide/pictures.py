"""Pictures of worlds, as texts."""

from mailtide.errors import BadValue
from mailtide.kinds import signs_text
from mailtide.world import World


def picture(world):
    """The text that shows the folders and the copies of a world."""
    if not isinstance(world, World):
        raise BadValue("world")
    lines = []
    for name in world.names():
        lines.extend(_folder_lines(name, world.folder(name)))
        for client in range(world.clients()):
            copy = world.copy(client, name)
            if copy is not None:
                lines.extend(_copy_lines(client, copy))
    return "".join([line + "\n" for line in lines])


def _folder_lines(name, folder):
    """The lines of a folder."""
    lines = [f"{name} age {folder.age()} mark {folder.mark()} next {folder.next_number()} cut {folder.cut()}"]
    for number, body, signs, mark in folder.letters():
        lines.append(f"  {number} {body} {signs_text(signs)} {mark}")
    return lines


def _copy_lines(client, copy):
    """The lines of a copy: what is wanted otherwise, and what is to come."""
    lines = [f"  client {client} age {copy.age()} mark {copy.mark()}"]
    for number, _, base, wanted in copy.letters():
        if wanted != base:
            told = "gone" if wanted is None else signs_text(wanted)
            lines.append(f"    {number} {signs_text(base)} to {told}")
    for body, signs in copy.made():
        lines.append(f"    made {body} {signs_text(signs)}")
    return lines
