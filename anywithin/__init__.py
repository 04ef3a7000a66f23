"""Anywithin: records within records, any number at every level."""
