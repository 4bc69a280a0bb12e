"""Solids whose faces keep their names."""
