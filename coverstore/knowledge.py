"""Knowledge: the facts that a replica has been told, and the versions at which they are known to hold."""

from coverstore.boxes import Box
from coverstore.errors import Needs, UnknownTable
from coverstore.messages import CLEAR, LOOK, PRESENT
from coverstore.shelves import Shelf

# Replicas do not know payloads; literals only ask whether there is one.
SOME_PAYLOAD = 0


class Fact:
    """A box of a table's columns that is clear, or the box of a present key, from a version on, through another."""

    def __init__(self, table, part, since, through):
        self.table = table
        self.part = part
        self.since = since
        self.through = through

    def includes(self, since, through):
        """Whether the fact is known to hold at all of these versions."""
        return self.since <= since and through <= self.through


class TableFacts:
    """The facts of one table."""

    def __init__(self):
        self._facts = {}
        self._clear = []
        self._shelf = Shelf()

    def is_known(self, word, box, since, through):
        """Whether a fact of the kind of this word is known to hold at all of these versions."""
        return any([fact.includes(since, through) for fact in self._facts.get((word, box.ranges), [])])

    def put(self, word, fact):
        """Put in a fact of the kind of this word."""
        together = self._facts.setdefault((word, fact.part.ranges), [])
        if word == CLEAR and len(together) == 0:
            self._shelf.put(fact.part, len(self._clear))
            self._clear.append(fact.part)
        together.append(fact)

    def clear_around(self, box, version):
        """The list of the boxes that contain this one and are known to be clear at a version."""
        around = [self._clear[number] for number in sorted(self._shelf.all_around(box))]
        return [clear for clear in around if self.is_known(CLEAR, clear, version, version)]


class Knowledge:
    """What a replica has heard: the parts of stretches, and facts, which last as long as no part meets them."""

    def __init__(self, tables, begin):
        self._tables = {name: TableFacts() for name in tables}
        self._begin = begin
        self._heard = begin
        self._stretches = {}
        # The facts that the stretches heard so far did not end.
        self._lasting = []

    @property
    def heard(self):
        """The version up to which all stretches have arrived."""
        return self._heard

    def hear(self, version, parts):
        """Take the parts of the stretch of a version."""
        if version <= self._begin or version in self._stretches:
            return
        self._stretches[version] = list(parts)
        while self._heard + 1 in self._stretches:
            self._heard += 1
            self._let_last(self._lasting)
            self._lasting = [fact for fact in self._lasting if fact.through >= self._heard]

    def learn(self, word, table, box, since, through):
        """Take a fact that holds from a version on, through another one."""
        if table not in self._tables or self._tables[table].is_known(word, box, since, through):
            return
        fact = Fact(table, box, since, through)
        self._tables[table].put(word, fact)
        if through >= self._begin:
            self._let_last([fact])
        if fact.through >= self._heard:
            self._lasting.append(fact)

    def is_present(self, table, box, version):
        """Whether the key with this point box is known to be present at a version."""
        return self._tables[table].is_known(PRESENT, box, version, version)

    def clear_around(self, table, box, version):
        """The list of the boxes that contain this one and are known to be clear at a version."""
        return self._tables[table].clear_around(box, version)

    def _let_last(self, facts):
        for fact in facts:
            while fact.through < self._heard and not self._is_met(fact, fact.through + 1):
                fact.through += 1

    def _is_met(self, fact, version):
        return any([table == fact.table and box.meets(fact.part) for table, box in self._stretches[version]])


class Moment:
    """What is known of one version, in the form of a source, as far as covers look at one."""

    def __init__(self, knowledge, bits, widths, version):
        self._knowledge = knowledge
        self._bits = bits
        self._widths = widths
        self._version = version

    @property
    def bits(self):
        """The number of digits of each value."""
        return self._bits

    def columns(self, table):
        """The number of key columns of a table."""
        if table not in self._widths:
            raise UnknownTable(table)
        return self._widths[table]

    def payload(self, table, key):
        """Something if the key is present, None if it is absent; raise Needs if neither is known."""
        if self._knowledge.is_present(table, Box.at(self._bits, *key), self._version):
            return SOME_PAYLOAD
        if len(self.gaps(table, key)) == 0:
            raise Needs((LOOK, table, key, self._version))
        return None

    def gaps(self, table, key):
        """The list of the boxes around a key that are known to be clear."""
        return self._knowledge.clear_around(table, Box.at(self._bits, *key), self._version)
