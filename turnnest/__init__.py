"""Turnnest: words of a row turned about within one another."""
