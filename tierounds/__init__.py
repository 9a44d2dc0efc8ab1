"""Tierounds: rounds that go over all one-way ties of a web once."""
