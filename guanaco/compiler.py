"""Compiling programs to code (points 104 to 116)."""

from guanaco.closures import convert
from guanaco.elaborate import elaborate
from guanaco.emitter import emit
from guanaco.normal import normalize
from guanaco.optimizer import optimize


def compile_program(program):
    """The code of a program, and what its runs need to know of it."""
    return compiled(normalize(elaborate(program)))


def compiled(unit):
    """The code and the info of a unit of the normal form."""
    unit = optimize(unit)
    return emit(convert(unit)), unit[1]
