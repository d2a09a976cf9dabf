"""Bentthrough: curves of bent pieces through points."""
