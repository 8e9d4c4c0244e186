"""Windpoints: points of going on, with winders."""
