"""Elderinn: guests who bear so many elders, and rooms as full as can be."""
