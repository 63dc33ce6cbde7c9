"""Journal: a machine's term, vote, snapshot and entries, kept on its disk."""

from shardstack.errors import LogError, StoreError
from shardstack.wire import frame

IMAGE = "image"
MEMBERS = "members"


class Entry:
    """An entry: the term in which it was made, and its command."""

    def __init__(self, term, command):
        self.term = term
        self.command = command

    def shown(self):
        """Return (term, command)."""
        return (self.term, self.command)


def entry_of(row):
    """Return an entry; messages tell entries as rows (term, command)."""
    if isinstance(row, Entry):
        return row
    return Entry(row[0], row[1])


class Journal:
    """Entries after a base, the term at the base, the members at the base, and the current term and vote."""

    def __init__(self, disk, members):
        self.disk = disk
        self.term = 0
        self.vote = None
        self.base = 0
        self.base_term = 0
        self.base_members = tuple(members)
        self.image = None
        self.entries = []

    def last(self):
        """Return the number of the last entry, the base if there is none."""
        return self.base + len(self.entries)

    def last_term(self):
        """Return the term of the last entry."""
        return self.term_at(self.last())

    def term_at(self, number):
        """Return the term of an entry, or of the base; raise LogError for another number."""
        if number == self.base:
            return self.base_term
        return self.entry(number).term

    def entry(self, number):
        """Return an entry; raise LogError for a number that is not there."""
        if not self.base < number <= self.last():
            raise LogError("there is no such entry")
        return self.entries[number - self.base - 1]

    def after(self, number, many):
        """Return at most so many entries after a number, which is the base or later."""
        if not self.base <= number <= self.last():
            raise LogError("there is no such entry")
        begin = number - self.base
        return tuple(self.entries[begin:begin + max(0, many)])

    def members(self):
        """Return the members that the last entry about members tells, or those at the base."""
        return self.members_at(self.last())

    def members_at(self, number):
        """Return the members that entries up to a number tell."""
        for entry in reversed(self.entries[:max(0, number - self.base)]):
            if entry.command[:1] == (MEMBERS,):
                return entry.command[1]
        return self.base_members

    def may_note(self, term, vote):
        """Return False for an earlier term, or another vote in the term."""
        return not (term < self.term or (term == self.term and self.vote is not None and vote != self.vote))

    def set_term(self, term, vote):
        """Note the term and the vote, and keep them; raise LogError for an earlier term, or another vote in it."""
        if not self.may_note(term, vote):
            raise LogError("terms do not go back, and a vote does not change")
        self.disk.append(("term", term, vote))
        self.disk.sync()
        self.term = term
        self.vote = vote

    def add(self, entries):
        """Add entries and keep them."""
        added = [entry_of(row) for row in entries]
        # All records are made before the first one is added: an entry that cannot be sent changes nothing.
        records = [frame(record) for record in self.records_of(self.last(), added)]
        for record in records:
            self.disk.append_bytes(record)
        self.disk.sync()
        self.entries.extend(added)

    def records_of(self, number, entries):
        """Return the records of entries that stand after a number."""
        return [("entry", number + at, entry.term, entry.command) for at, entry in enumerate(entries, 1)]

    def cut(self, number):
        """Drop the entries from a number on, and keep that; raise LogError for the base or earlier."""
        if number <= self.base:
            raise LogError("entries at the base or before do not go")
        self.disk.append(("cut", number))
        self.disk.sync()
        self.drop_from(number)

    def drop_from(self, number):
        """Hold the entries before a number alone."""
        self.entries = self.entries[:number - self.base - 1]

    def take_image(self, number, image):
        """Put a snapshot in the place of the entries up to a number, which must be there."""
        # The base itself is there, too: a snapshot taken at it stands for the same entries as the one before.
        term = self.term_at(number)
        self.set_base(number, term, self.members_at(number), image, self.entries[number - self.base:])

    def install(self, number, term, members, image):
        """Take over a snapshot from elsewhere; entries after it stay if they follow the same entry."""
        left = []
        if self.base <= number <= self.last() and self.term_at(number) == term:
            left = self.entries[number - self.base:]
        self.set_base(number, term, tuple(members), image, left)

    def set_base(self, number, term, members, image, entries):
        """Keep a snapshot and the entries after it, both at once."""
        records = [("term", self.term, self.vote)] + self.records_of(number, entries)
        self.disk.replace(IMAGE, (number, term, members, image), records)
        self.base = number
        self.base_term = term
        self.base_members = members
        self.image = image
        self.entries = entries

    def same_after(self, number, entries):
        """Return how many of some entries stand after a number already, with the same terms."""
        many = 0
        for row in entries:
            at = number + many + 1
            if at > self.last() or self.term_at(at) != entry_of(row).term:
                break
            many = many + 1
        return many


def read_journal(disk, members):
    """Return the journal that a disk holds; raise StoreError for records that do not follow each other."""
    journal = Journal(disk, members)
    read_image(journal, disk.read_file(IMAGE))
    for record in disk.records():
        if not takes_record(journal, record):
            raise StoreError("records do not follow each other")
    return journal


def read_image(journal, kept):
    """Let a journal begin at a kept snapshot, if there is one."""
    if kept is None:
        return
    if not isinstance(kept, tuple) or len(kept) != 4:
        raise StoreError("a snapshot is invalid")
    number, term, members, image = kept
    journal.base = number
    journal.base_term = term
    journal.base_members = members
    journal.image = image


def takes_record(journal, record):
    """Let a journal take over a kept record; return False for one that does not follow those before."""
    if not isinstance(record, tuple) or len(record) < 2 or not isinstance(record[1], int):
        return False
    word = record[0]
    number = record[1]
    if word == "term" and len(record) == 3 and journal.may_note(number, record[2]):
        journal.term = number
        journal.vote = record[2]
    elif word == "entry" and len(record) == 4 and number == journal.last() + 1:
        journal.entries.append(Entry(record[2], record[3]))
    elif word == "cut" and len(record) == 2 and number > journal.base:
        journal.drop_from(number)
    else:
        return False
    return True
