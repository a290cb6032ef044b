"""Rowvault: amounts kept in many sums, and what must be read, lost or written in order."""
