"""The calls on parts: guard, dissolve, others, grant, revoke and transfer."""

from guardedparts.parts import Grant, Part
from guardedparts.refusals import ALL_MADE, NO_GRANT, NO_PLACE, NO_RIGHT, NOT_THERE, OUT_OF_ORDER, OUT_OF_RANGE
from guardedparts.rights import is_author, is_level, lacks_level
from guardedparts.tags import MOST_PARTS, tag_bit


def guard(state, p, q, level):
    """Make a part of the stretch, with a level for others."""
    row = state.row
    if not 0 <= p < q <= len(row.shown):
        return [NO_PLACE]
    if not is_level(level):
        return [OUT_OF_RANGE]
    if lacks_level(state, row.shown[p:q], 3):
        return [NO_RIGHT]
    if len(state.parts) == MOST_PARTS:
        return [ALL_MADE]
    t = len(state.parts) + 1
    state.parts[t] = Part(state.author, level)
    row.tag(p, q, tag_bit(t))
    return [t]


def dissolve(state, t):
    """Put part t out of force."""
    part = state.part_in_force(t)
    if part is None:
        return [NOT_THERE]
    if part.owner != state.author:
        return [NO_RIGHT]
    part.in_force = False
    return [state.row.untag(tag_bit(t))]


def others(state, t, level):
    """Give part t another level for others."""
    part = state.part_in_force(t)
    if part is None:
        return [NOT_THERE]
    if not is_level(level):
        return [OUT_OF_RANGE]
    if part.owner != state.author:
        return [NO_RIGHT]
    before = part.others
    part.others = level
    return [before]


def grant(state, t, a, level, pass_on):
    """Give author a a grant in part t."""
    refusal = grant_refusal(state, t, a, level, pass_on)
    if refusal < 0:
        return [refusal]
    part = state.part_in_force(t)
    part.grants[a] = Grant(level, pass_on == 1, state.author)
    # The new grant has a ground, since its giver's grant never stands on it:
    # so those that go are grants of others.
    return [part.drop_groundless()]


def grant_refusal(state, t, a, level, pass_on):
    """The refusal that grant answers, or 0."""
    part = state.part_in_force(t)
    if part is None:
        return NOT_THERE
    if not is_author(a) or not is_level(level) or not 0 <= pass_on <= 1:
        return OUT_OF_RANGE
    if a == part.owner or a == state.author:
        return OUT_OF_ORDER
    if not part.may_give(state.author, level):
        return NO_RIGHT
    if a in part.grants and part.grants[a].giver != state.author and part.owner != state.author:
        return NO_RIGHT
    return 0


def revoke(state, t, a):
    """Take author a's grant in part t back."""
    part = state.part_in_force(t)
    if part is None:
        return [NOT_THERE]
    if a not in part.grants:
        return [NO_GRANT]
    if state.author != part.owner and state.author != part.grants[a].giver and state.author != a:
        return [NO_RIGHT]
    part.grants.pop(a)
    return [1 + part.drop_groundless()]


def transfer(state, t, a):
    """Make author a the owner of part t."""
    part = state.part_in_force(t)
    if part is None:
        return [NOT_THERE]
    if not is_author(a):
        return [OUT_OF_RANGE]
    if part.owner != state.author:
        return [NO_RIGHT]
    if part.owner == a:
        return [OUT_OF_ORDER]
    part.hand_over(a)
    part.drop_groundless()
    return [len(part.grants)]
