"""Chains and rings: bounds of which each leads from where the one ahead leads to."""

from skewbooks.bounds import has_bound_form, lead_table
from skewbooks.ledgers import are_unlike


def chain_in(table, thing):
    """Of a chain of one or more bounds of the table (from, to, sum), of anything else None."""
    if not isinstance(thing, tuple) or len(thing) == 0:
        return None
    if not all([has_bound_form(bound) and bound in table for bound in thing]):
        return None
    steps = [table[bound] for bound in thing]
    if not all([step[1] == later[0] for step, later in zip(steps, steps[1:])]):
        return None
    return (steps[0][0], steps[-1][1], sum([more for start, end, more in steps]))


def chain_of(ledger, thing):
    """Of a chain of one or more bounds of the ledger (from, to, sum), of anything else None."""
    return chain_in(lead_table(ledger), thing)


def is_bare(ledger, ring):
    """Whether no two bounds of the ring lead to the same."""
    table = lead_table(ledger)
    return are_unlike([table[bound][1] for bound in ring])
