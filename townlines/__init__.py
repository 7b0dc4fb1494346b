"""Townlines: records written as lines by forms, and read back."""
