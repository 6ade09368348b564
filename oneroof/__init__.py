"""Oneroof: many houses' books read as one house's book."""
