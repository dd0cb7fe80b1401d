"""Sparetails: windows on rows that grow in place, and programs with them."""
