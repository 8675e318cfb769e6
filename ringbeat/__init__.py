"""Ringbeat: a net of goings that come again for ever."""
