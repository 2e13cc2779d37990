"""Worthshares: linear rules that share the worth of groups, and the axioms that they keep."""
