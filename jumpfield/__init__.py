"""Jumpfield: fields of cells, jumped over time."""
