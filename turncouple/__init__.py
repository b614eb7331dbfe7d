"""Turncouple: turns coupled exactly, with signs and roots kept whole."""
