"""Amidread: record formats that can be entered anywhere."""
