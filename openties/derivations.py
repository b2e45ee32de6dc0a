"""Stage 5: derivations, which show that a report is settled."""

from openties.knowledge import EMPTY, derive, is_knowledge, knowledge_after, settles, start_knowledge
from openties.schemas import contains


def is_weaker(knowledge, other):
    """Return whether the first knowledge is weaker than the second one, or equal to it."""
    if knowledge == EMPTY or other == EMPTY:
        return other == EMPTY
    constants, order, known, counted, most = knowledge
    other_constants, other_order, other_known, other_counted, other_most = other
    if not all([pair in other_constants for pair in constants]):
        return False
    if not other_order.startswith(order) or not contains(other_known, known):
        return False
    if counted and not other_counted:
        return False
    return most is None or other_most is not None and other_most <= most


def is_derivation(schema, report, value):
    """Return whether the value is a derivation of the report."""
    if not isinstance(value, list) or len(value) != 1 + len(report):
        return False
    if not all([is_knowledge(schema, knowledge) for knowledge in value]):
        return False
    if not is_weaker(value[0], start_knowledge(schema)):
        return False
    for at, step in enumerate(report):
        if not is_weaker(value[at + 1], knowledge_after(schema, value[at], step)):
            return False
    return settles(schema, report, value[-1])


def find_derivation(schema, report):
    """Return the knowledges of the report, if the last one settles it, otherwise None."""
    found = derive(schema, report)
    return found if settles(schema, report, found[-1]) else None
