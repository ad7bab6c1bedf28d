"""Formats and values as texts, printed, scanned."""
