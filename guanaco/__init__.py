"""Guanaco: a checked language with modules, compiled to a machine."""
