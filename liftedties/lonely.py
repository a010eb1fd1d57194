"""Webs in which no lift can be done ([D2])."""

from liftedties.deeds import all_lifts


def is_lonely(web):
    """Whether no lift can be done in the web."""
    return len(all_lifts(web)) == 0
