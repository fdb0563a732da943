"""Runs of units of the normal form (point 105)."""

from guanaco.block_machine import run_blocks
from guanaco.closures import convert


def run_normal(unit, fuel):
    """The run of a unit: that of its functions, which are the unit's with closures (point 110)."""
    return run_blocks(convert(unit), unit[1], fuel)
