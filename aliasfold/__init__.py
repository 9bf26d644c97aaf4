"""Aliasfold: a small language with hygienic macros and modules."""
