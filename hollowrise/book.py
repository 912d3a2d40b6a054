"""A BOOK of FIELDS by NAMES, each with a RULE, and the JOBS that are done at it."""

from hollowrise.changes import laden
from hollowrise.deeds import lowered, raised
from hollowrise.errors import BadJob, BadName, Full, Gone, NoName, Taken
from hollowrise.fields import need_field, with_worth
from hollowrise.kinds import need_rule
from hollowrise.pairings import worth_by_pairings
from hollowrise.reach import worth_at
from hollowrise.rows import led

MOST_NAMES = 20
MOST_LETTERS = 8
# Of each word of a DEED: how many parts it has, and how many of those right behind the word are NAMES.
PARTS = {"put": (4, 1), "drop": (2, 1), "copy": (3, 2), "up": (4, 1), "down": (4, 1), "bring": (3, 1), "worth": (5, 1),
         "lade": (4, 1), "rule": (3, 1)}


class Book:
    """FIELDS by NAMES, each with a RULE; its JOBS can be undone, and done again."""

    def __init__(self):
        # From each NAME to (FIELD, RULE); this dict is never changed, but another one put in its place.
        self._kept = {}
        # Of each JOB that stands, and of each that can be done again: (JOB, what was kept on its other side).
        self._behind = []
        self._ahead = []

    def __eq__(self, other):
        """True of another one whose NAMES, FIELDS and RULES are the same."""
        return isinstance(other, Book) and self._kept == other._kept

    def __len__(self):
        """How many NAMES there are."""
        return len(self._kept)

    def do(self, job):
        """A JOB done, or not at all; BadJob, else as its first DEED that is refused."""
        need_job(job)
        kept = self._kept
        for deed in job:
            kept = _kept_behind(kept, deed)
        self._behind.append((job, self._kept))
        self._ahead = []
        self._kept = kept

    def undo(self):
        """The last JOB that stood, undone; Gone without one."""
        if len(self._behind) == 0:
            raise Gone("there is no job to undo")
        job, kept = self._behind.pop()
        self._ahead.append((job, self._kept))
        self._kept = kept
        return job

    def redo(self):
        """The JOB that was undone last, done again; Gone without one."""
        if len(self._ahead) == 0:
            raise Gone("there is no job to do again")
        job, kept = self._ahead.pop()
        self._behind.append((job, self._kept))
        self._kept = kept
        return job

    def names(self):
        """The NAMES, rising."""
        return tuple(sorted(self._kept))

    def field_by_name(self, name):
        """The FIELD of a NAME, as it stands; BadName, NoName."""
        field, _ = self._of_name(name)
        return field

    def rule_by_name(self, name):
        """The RULE of a NAME; BadName, NoName."""
        _, rule = self._of_name(name)
        return rule

    def journal(self):
        """The JOBS that stand, in order."""
        return tuple([job for job, _ in self._behind])

    def worth_at(self, name, x, y, height):
        """As worth_at of the FIELD of a NAME by its RULE; BadName, NoName."""
        field, rule = self._of_name(name)
        return worth_at(field, x, y, height, rule=rule)

    def worth_by_pairings(self, name, target):
        """As worth_by_pairings of the FIELD of a NAME by its RULE; BadName, NoName."""
        field, rule = self._of_name(name)
        return worth_by_pairings(field, target, rule=rule)

    def twin(self):
        """Another BOOK with all that this one has, that goes by itself."""
        other = Book()
        other._stand_as(self._kept, self._behind, self._ahead)
        return other

    def need_new(self, name):
        """None, or Taken of a NAME that is there, Full where there is no room for it."""
        _need_new(self._kept, name)

    def _of_name(self, name):
        """(FIELD, RULE) of a NAME; BadName, NoName."""
        if not is_name(name):
            raise BadName("this is no name")
        return _kept_of(self._kept, name)

    def _stand_as(self, kept, behind, ahead):
        """What another one keeps is kept here from now on."""
        self._kept = kept
        self._behind = list(behind)
        self._ahead = list(ahead)


def is_name(thing):
    """True of a NAME, of anything."""
    if type(thing) is not str or not 1 <= len(thing) <= MOST_LETTERS:
        return False
    return thing.isascii() and thing.isalpha() and thing.islower()


def need_job(thing):
    """None, or BadJob(number) of anything that is no JOB."""
    if type(thing) is not tuple or len(thing) == 0:
        raise BadJob(None)
    for number, deed in enumerate(thing):
        if not _is_deed(deed):
            raise BadJob(number)


def _is_deed(thing):
    """True of what is a DEED by its form, of anything."""
    if type(thing) is not tuple or len(thing) == 0 or type(thing[0]) is not str or thing[0] not in PARTS:
        return False
    many, names = PARTS[thing[0]]
    if len(thing) != many:
        return False
    for name in thing[1:names + 1]:
        if not is_name(name):
            return False
    return True


def _kept_of(kept, name):
    """(FIELD, RULE) of a good NAME; NoName."""
    if name not in kept:
        raise NoName(name)
    return kept[name]


def _need_new(kept, name):
    """None, or Taken, Full of a good NAME that can't be put there."""
    if name in kept:
        raise Taken(name)
    if len(kept) >= MOST_NAMES:
        raise Full(MOST_NAMES)


def _kept_behind(kept, deed):
    """What is kept behind a DEED, or as it is refused."""
    word = deed[0]
    name = deed[1]
    behind = {other: kept[other] for other in kept}
    if word == "put":
        _need_new(kept, name)
        need_field(deed[2])
        need_rule(deed[3])
        behind[name] = deed[2:]
    elif word == "drop":
        _kept_of(kept, name)
        del behind[name]
    elif word == "copy":
        told = _kept_of(kept, name)
        _need_new(kept, deed[2])
        behind[deed[2]] = told
    else:
        field, rule = _kept_of(kept, name)
        behind[name] = _changed_by(deed, field, rule)
    return behind


def _changed_by(deed, field, rule):
    """(FIELD, RULE) behind a DEED at the FIELD of one NAME, or as it is refused."""
    word = deed[0]
    if word == "rule":
        need_rule(deed[2])
        return (field, deed[2])
    if word == "up":
        return (raised(field, deed[2:], rule=rule), rule)
    if word == "down":
        return (lowered(field, deed[2:], rule=rule), rule)
    if word == "bring":
        return (led(field, deed[2], rule=rule), rule)
    if word == "worth":
        return (with_worth(field, deed[2:4], deed[4]), rule)
    return (laden(field, deed[2], deed[3]), rule)
