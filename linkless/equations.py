"""Equations modulo 2 over unknowns with numbers from 0 on.

An equation is a number: its bit 0 is the right side, its bit K + 1 tells whether the unknown K stands in it.
"""


def mark(unknown):
    """The number with just the bit of this unknown."""
    return 2 << unknown


def is_odd(number):
    """Whether an odd number of bits are set."""
    return f"{number:b}".count("1") & 1 == 1


def solution(rows):
    """Numbers of unknowns, ascending: all equations hold if just these are 1. None if they can't."""
    leads, barred = _reduced(rows)
    if barred:
        return None
    # Bit 0 stands among the chosen ones, so that the right sides count.
    chosen = 1
    for length in sorted(leads):
        row, _ = leads[length]
        if is_odd(row & chosen):
            chosen |= 1 << (length - 1)
    return _set_bits(chosen >> 1)


def contradiction(rows):
    """Indexes of equations, ascending, that add up to 0 = 1; None if all can hold together."""
    _, barred = _reduced(rows)
    return _set_bits(barred) if barred else None


def _reduced(rows):
    """Sums of equations by their lengths, and what equations add up to 0 = 1, as bits.

    No two of the sums have their foremost unknown in common; each stands beside what it is the sum of, as bits.
    """
    leads = {}
    for index, row in enumerate(rows):
        rest, parts = row, 1 << index
        while rest.bit_length() in leads:
            other, others = leads[rest.bit_length()]
            rest, parts = rest ^ other, parts ^ others
        if rest == 1:
            return (leads, parts)
        if rest:
            leads[rest.bit_length()] = (rest, parts)
    return (leads, 0)


def _set_bits(number):
    return [place for place in range(number.bit_length()) if number >> place & 1]
