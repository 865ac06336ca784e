"""Noteshold: builds and packages by what was seen."""
