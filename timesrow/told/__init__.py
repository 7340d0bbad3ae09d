"""Told back of what was seen of a row: rules, bounds and starts that fit."""
