"""Noticed: orders told by a least difference."""
