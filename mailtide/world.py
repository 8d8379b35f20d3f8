"""A world of clients: a server with folders under names, and the copies that clients keep of them."""

from mailtide.copies import copy_of, least_row, stepped
from mailtide.errors import BadCopy, BadDeed, BadValue
from mailtide.folders import Folder
from mailtide.histories import can_be_done, done, played
from mailtide.kinds import is_integer, is_sign

MOST_NAMES = 4
MOST_CLIENTS = 4


class World:
    """The folders of a server by their names, and for each client its copies, by these names too."""

    def __init__(self, names, clients):
        if not _are_names(names):
            raise BadValue("names")
        if not is_integer(clients) or not 1 <= clients <= MOST_CLIENTS:
            raise BadValue("clients")
        self._folders = {name: Folder(age) for age, name in enumerate(names, start=1)}
        self._next_age = len(names) + 1
        self._clients = clients
        # The copies that there are, by (client, name).
        self._copies = {}

    def names(self):
        """The ascending list of the names."""
        return sorted(list(self._folders))

    def clients(self):
        """The number of clients."""
        return self._clients

    def folder(self, name):
        """The folder with a name."""
        self._check_name(name)
        return self._folders[name]

    def copy(self, client, name):
        """The copy that a client keeps for a name, or None."""
        self._check_client(client)
        self._check_name(name)
        return self._copies.get((client, name))

    def act(self, name, deed):
        """Do a deed of somebody else."""
        self._check_name(name)
        if not can_be_done(self._folders[name], deed):
            raise BadDeed(-1)
        self._folders[name] = done(self._folders[name], deed)

    def remake(self, name):
        """Remove a folder, and make an empty one with the least age that no folder had yet."""
        self._check_name(name)
        self._folders[name] = Folder(self._next_age)
        self._next_age += 1

    def swap(self, name, other):
        """Let two folders change names."""
        self._check_name(name)
        if not self._is_name(other) or other == name:
            raise BadValue("other")
        one, two = self._folders[name], self._folders[other]
        self._folders[name] = two
        self._folders[other] = one

    def fetch(self, client, name):
        """Let a client take a copy that is in step."""
        self._check_client(client)
        self._check_name(name)
        self._copies[(client, name)] = copy_of(self._folders[name])

    def want(self, client, name, number, signs):
        """Let a client want a letter to have these signs."""
        self._copies[(client, name)] = self._copy(client, name).wanting(number, signs)

    def drop(self, client, name, number):
        """Let a client want a letter to go."""
        self._copies[(client, name)] = self._copy(client, name).dropping(number)

    def make(self, client, name, body, signs):
        """Let a client want one more letter to come."""
        self._copies[(client, name)] = self._copy(client, name).making(body, signs)

    def step(self, client, name):
        """Let a copy step: (what the server tells ahead of it, what was sent, the numbers of what was lost)."""
        old = self._copy(client, name)
        folder = self._folders[name]
        new, later, sent, lost = stepped(old, folder)
        self._copies[(client, name)] = new
        self._folders[name] = later
        return (_told(old, folder), sent, lost)

    def breaks(self, client, name, p):
        """Begin the step of a copy: the first p deeds are done, then the line breaks."""
        sent = self._sent(client, name, p)
        self._folders[name] = played(self._folders[name], sent)

    def settle(self):
        """Let copies that are not in step do so, in rounds, until all are; return the list of (client, name)."""
        row = []
        waiting = self._out_of_step()
        while waiting:
            for key in self._places():
                if not self._is_in_step(key):
                    self.step(key[0], key[1])
                    row.append(key)
            waiting = self._out_of_step()
        return row

    def least_steps(self):
        """The fewest steps that bring all copies in step, and the first row of so many: (number, row)."""
        # Copies of other names do not matter to a copy. So in the first row of all, those of each name stand in the
        # first row of theirs, and of the names the one goes on whose next step is the least.
        rows = {}
        for name in self.names():
            clients = [client for client in range(self._clients) if (client, name) in self._copies]
            copies = [self._copies[(client, name)] for client in clients]
            rows[name] = [(clients[at], name) for at in least_row(copies, self._folders[name])]
        row = []
        while any([len(rows[name]) > 0 for name in rows]):
            key = min([rows[name][0] for name in rows if rows[name]])
            rows[key[1]] = rows[key[1]][1:]
            row.append(key)
        return (len(row), tuple(row))

    def safe_trim(self, name):
        """The greatest mark up to which the log can be trimmed so that no copy must send its numbers, or None."""
        self._check_name(name)
        folder = self._folders[name]
        copies = [self._copies[key] for key in self._copies if key[1] == name]
        least = min([copy.mark() for copy in copies if copy.age() == folder.age()], default=folder.mark())
        return least if folder.cut() <= least else None

    def doubled(self, client, name, p):
        """The (body, signs) of the letters that are there once more if the step breaks and is done again."""
        sent = self._sent(client, name, p)
        return sorted([deed[1:] for deed in sent if deed[0] == "append"])

    def _is_name(self, value):
        """Whether the value is a name of the world."""
        return isinstance(value, str) and value in self._folders

    def _check_name(self, name):
        """Raise BadValue if this is no name of the world."""
        if not self._is_name(name):
            raise BadValue("name")

    def _check_client(self, client):
        """Raise BadValue if this is no client."""
        if not is_integer(client) or not 0 <= client < self._clients:
            raise BadValue("client")

    def _copy(self, client, name):
        """The copy that a client keeps for a name; raise BadCopy if there is none."""
        copy = self.copy(client, name)
        if copy is None:
            raise BadCopy(None)
        return copy

    def _sent(self, client, name, p):
        """The first p of the deeds that a copy would send."""
        sent = stepped(self._copy(client, name), self._folders[name])[2]
        if not is_integer(p) or not 0 <= p <= len(sent):
            raise BadValue("p")
        return sent[:p]

    def _places(self):
        """All (client, name) with a copy, ascending."""
        return sorted(list(self._copies))

    def _is_in_step(self, key):
        """Whether the copy of (client, name) is the one that would be fetched."""
        return self._copies[key] == copy_of(self._folders[key[1]])

    def _out_of_step(self):
        """All (client, name) whose copy is not in step."""
        return [key for key in self._places() if not self._is_in_step(key)]


def _told(copy, folder):
    """What the server has to tell ahead of a step: (word, changed, gone)."""
    letters = folder.letters()
    if copy.age() != folder.age():
        return ("anew", tuple([letter[0] for letter in letters]), ())
    there = {letter[0]: True for letter in letters}
    changed = tuple([letter[0] for letter in letters if letter[3] > copy.mark()])
    gone = tuple([letter[0] for letter in copy.letters() if letter[0] not in there])
    return ("log" if folder.cut() <= copy.mark() else "known", changed, gone)


def _are_names(value):
    """Whether the value is a list or tuple of different words, not too many."""
    if not isinstance(value, (list, tuple)) or not 1 <= len(value) <= MOST_NAMES:
        return False
    # A name is a word as a sign is.
    return all([is_sign(name) for name in value]) and len(set(value)) == len(value)
