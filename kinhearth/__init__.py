"""Kinhearth: sections of kin, and which of them are still open to each one."""
