"""Editionrows: rows written before the column."""
