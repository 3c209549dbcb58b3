"""Judges of what others claim: that the ones are kept to doors, or that they tell something beside them."""

from hushkernel.judges import rows_fault, triples_fault
from hushkernel.roles import roles_with_doors


def kept_fault(moment, ones, doors, thing, *, eyes=None):
    """Why a list of triples does not show that the ones are kept to the doors, or None if it does."""
    return triples_fault(moment, roles_with_doors(moment.build(), ones, doors, eyes), thing)


def beside_fault(moment, ones, doors, thing, *, eyes=None):
    """Why a list of rows does not show that the ones tell something beside the doors, or None if it does."""
    return rows_fault(moment, roles_with_doors(moment.build(), ones, doors, eyes), thing)
