"""A table of a base, with what became of each of its keys."""

from coverstore.rows import lies_within


def state_at(history, version):
    """The payload that a history tells for a version, or None while the key is absent."""
    place = len(history)
    while place > 0 and history[place - 1][0] > version:
        place -= 1
    return history[place - 1][1] if place > 0 else None


def later_changes(history, version):
    """What a history tells of later versions."""
    return [(since, payload) for since, payload in history if since > version]


class Table:
    """The columns and orders of a table; for each key the list of its changes, (version, payload or None)."""

    def __init__(self, width, arrangements):
        self.width = width
        self.arrangements = arrangements
        self._histories = {}

    def set_from(self, version, key, payload):
        """Let a key have this payload from a version on, or be absent if it is None; nothing happens if it is so."""
        history = self._histories.get(key, [])
        if state_at(history, version) != payload:
            self._histories[key] = history + [(version, payload)]

    def payload_at(self, key, version):
        """The payload of a key at a version, or None."""
        return state_at(self._histories.get(key, []), version)

    def rows_at(self, version):
        """The sorted list of the rows at a version."""
        rows = [(key, state_at(self._histories[key], version)) for key in sorted(list(self._histories))]
        return [(key, payload) for key, payload in rows if payload is not None]

    def keys_at(self, limits, version):
        """The sorted list of the keys that are present at a version within these limits."""
        keys = [key for key in self._keys_within(limits) if self.payload_at(key, version) is not None]
        return sorted(keys)

    def keys_changed_at(self, version):
        """The sorted list of the keys that are changed at a version."""
        return sorted([key for key in self._histories if self._is_changed_at(key, version)])

    def presence_break(self, key, version):
        """The first later version at which a key is present instead of absent, or the other way round, or None."""
        was_present = self.payload_at(key, version) is not None
        for since, payload in later_changes(self._histories.get(key, []), version):
            if (payload is not None) != was_present:
                return since
        return None

    def payload_break(self, key, version):
        """The first later version at which a key has not the same payload, or None."""
        changes = later_changes(self._histories.get(key, []), version)
        return changes[0][0] if len(changes) > 0 else None

    def clear_break(self, limits, version):
        """The first later version at which a key is present within limits that are clear at this one, or None."""
        breaks = [self.presence_break(key, version) for key in self._keys_within(limits)]
        return min([since for since in breaks if since is not None], default=None)

    def forget_before(self, version):
        """Drop what happened before a version."""
        for key, history in list(self._histories.items()):
            payload = state_at(history, version)
            kept = later_changes(history, version)
            if payload is not None:
                kept = [(version, payload)] + kept
            if len(kept) > 0:
                self._histories[key] = kept
            else:
                del self._histories[key]

    def _keys_within(self, limits):
        return [key for key in self._histories if lies_within(key, limits)]

    def _is_changed_at(self, key, version):
        return len([since for since, _ in self._histories[key] if since == version]) > 0
