"""Indexturns: great arrays rearranged by the bits of their places."""
