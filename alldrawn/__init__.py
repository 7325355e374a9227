"""Alldrawn: what holds in every drawing of a net without crossings."""
