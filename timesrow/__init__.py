"""Timesrow: rows by times and plus, told back."""
