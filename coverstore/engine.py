"""The engine: papers of queries at sources, and the order of the variables that makes them short."""

from coverstore.boxes import Box
from coverstore.covering import Covering
from coverstore.errors import InvalidLimit, TooMany
from coverstore.judging import check_box
from coverstore.kinds import is_int
from coverstore.queries import fit

MAX_LIMIT = 100000
MAX_ORDERED = 4


def paper_of(source, query, *, box=None, limit=2000):
    """The paper of a query at a source, for a box or for the whole one."""
    fit(query, source)
    length = len(query.variables)
    aim = Box.whole(source.bits, length) if box is None else box
    check_box(aim, source.bits, length)
    if not is_int(limit) or not 1 <= limit <= MAX_LIMIT:
        raise InvalidLimit(limit)
    return Covering(source, query, limit).paper_for(aim)


def best_order(source, query, *, limit=2000):
    """The first order of the variables whose paper has the fewest lines."""
    fit(query, source)
    if len(query.variables) > MAX_ORDERED:
        raise TooMany("variables", MAX_ORDERED)
    orders = sequences_of(query.variables)
    lengths = [len(paper_of(source, query.in_order(*order), limit=limit)) for order in orders]
    return orders[lengths.index(min(lengths))]


def sequences_of(names):
    """All sequences of names, in lexicographic order of the places that they have now."""
    if len(names) == 0:
        return [()]
    sequences = []
    for place, name in enumerate(names):
        for rest in sequences_of(names[:place] + names[place + 1:]):
            sequences.append((name,) + rest)
    return sequences
