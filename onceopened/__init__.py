"""Packs that are opened and never closed."""
