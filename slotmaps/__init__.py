"""Exact routes in maps that contain maps without end."""
