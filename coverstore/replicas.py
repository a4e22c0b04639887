"""Replicas: they answer queries of a store from messages about it, and ask for what they do not know."""

from coverstore.boxes import Box
from coverstore.covering import Covering
from coverstore.errors import InvalidCount, InvalidMessage, UnknownVersion
from coverstore.kinds import is_int, is_place
from coverstore.knowledge import Knowledge, Moment
from coverstore.messages import CLEAR, PRESENT, STRETCH, is_message, is_request, told_fact
from coverstore.queries import fit
from coverstore.ranges import MAX_BITS, range_of


def stretch_of(store, version, digits):
    """The message that tells which keys were changed at a version, by so many leading digits of their values."""
    if version is None or version == 0:
        raise UnknownVersion(version)
    changed = store.changed_keys(version)
    if not is_place(digits, MAX_BITS + 1):
        raise InvalidCount(digits)
    parts = [(table, box_of_digits(store.bits, key, digits)) for table, key in changed]
    return STRETCH, version, tuple(parts)


def box_of_digits(bits, key, digits):
    """The box of the keys whose values begin like those of a key."""
    return Box(bits, [range_of(value, bits)[:digits] for value in key])


def reply(store, request):
    """The list of the messages that answer a request."""
    if not is_request(request, store):
        raise InvalidMessage(request)
    _, table, key, version = request
    source = store.snapshot(version)
    if source.payload(table, key) is not None:
        return [told_fact(store, PRESENT, table, key, version)]
    return [told_fact(store, CLEAR, table, gap, version) for gap in source.gaps(table, key)]


class Replica:
    """What messages told of a store since a version; the store itself is not used later."""

    def __init__(self, store):
        self._bits = store.bits
        self._widths = {table: store.columns(table) for table in store.tables()}
        self._first = store.version
        self._knowledge = Knowledge(store.tables(), store.version)
        self._asked = []
        self._covering = None

    @property
    def first(self):
        """The version at which the replica began."""
        return self._first

    @property
    def heard(self):
        """The version up to which all stretches have arrived."""
        return self._knowledge.heard

    def receive(self, message):
        """Take a message."""
        if not is_message(message, self._bits, self._widths):
            raise InvalidMessage(message)
        if message[0] == STRETCH:
            self._knowledge.hear(message[1], message[2])
            return
        word, table, part, since, through = message
        box = Box.at(self._bits, *part) if word == PRESENT else part
        self._knowledge.learn(word, table, box, since, through)

    def ask(self, query, version=None):
        """The answer of a query at a version; raise Needs with a request if it is not known."""
        meant = self._knowledge.heard if version is None else version
        if not is_int(meant) or not self._first <= meant <= self._knowledge.heard:
            raise UnknownVersion(version)
        moment = Moment(self._knowledge, self._bits, self._widths, meant)
        fit(query, moment)
        # What was known stays known, so that a query that is asked again goes on where facts were missing.
        if self._asked != [query, meant]:
            self._asked = [query, meant]
            self._covering = Covering(moment, query)
        return self._covering.paper_for(Box.whole(self._bits, len(query.variables))).points()
