"""Ownwords: who is who among people without names."""
