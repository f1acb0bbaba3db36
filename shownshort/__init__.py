"""Shownshort: texts that are shown shortened."""
