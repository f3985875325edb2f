"""Loosemarks: numbers told by marks, no two side by side."""
