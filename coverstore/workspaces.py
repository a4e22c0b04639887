"""Workspaces: a source with writes laid over it, one after another."""

from coverstore.overlays import Overlay
from coverstore.writes import Draft


class Workspace:
    """What a source shows after the writes so far."""

    def __init__(self, source):
        self._below = source
        self._draft = Draft(source)
        self._shown = source

    def performs(self, write):
        """Perform a valid write if it can be performed after the earlier ones, and tell whether it was."""
        if not self._draft.performs(write):
            return False
        self._shown = None
        return True

    def shown(self):
        """The source with the writes so far laid over it."""
        # Many writes often follow each other without a question between them, so the overlay is made late.
        if self._shown is None:
            self._shown = Overlay(self._below, self._draft.writes())
        return self._shown

    def writes(self):
        """The list of the writes that were performed."""
        return self._draft.writes()
