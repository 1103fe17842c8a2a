"""Tastesbook: what purchases say of a taste."""
