"""Echelon: exact linear algebra with certificates."""
