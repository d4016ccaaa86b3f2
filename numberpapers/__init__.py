"""Whole numbers answered with papers."""
