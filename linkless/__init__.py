"""Linkless: graphs on a line, in the plane, in space."""
