"""Wrappers round a function, and what must stand outside what."""
