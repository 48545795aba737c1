"""Widewords: wide numbers in narrow words."""
