"""The looker: whether a claim is told of some letters."""

from holdword.claims import is_claim
from holdword.judging import way_out


def takes(town, claim, pile, comings):
    """Tell, of anything as claim, whether it is told of a pile."""
    return is_claim(claim) and way_out(town, pile, comings, claim) is None
