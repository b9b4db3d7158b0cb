"""Speakmill: a small language from text to answer."""
