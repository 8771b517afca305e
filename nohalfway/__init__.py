"""Nohalfway: books of rows changed while letters run, and no letter goes half by one and half by the other."""
