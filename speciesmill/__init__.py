"""Speciesmill: kinds of structures, counted, listed and drawn."""
