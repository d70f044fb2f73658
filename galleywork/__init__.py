"""Galleywork: a page setter that breaks lines and pages at least cost."""
