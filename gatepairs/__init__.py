"""Gatepairs: pairing anonymous entries with exits."""
