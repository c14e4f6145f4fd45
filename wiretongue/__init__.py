"""Wiretongue: a language of wires, made to gates, laid on cells, led back."""
