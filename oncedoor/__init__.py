"""Oncedoor: asks that may come twice."""
