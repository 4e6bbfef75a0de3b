"""Splithouse: tables cut into parts by told rules."""
