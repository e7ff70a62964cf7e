"""Redopages: redo after a crash when nobody knows the functions."""
