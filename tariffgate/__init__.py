"""Tariffgate: a customs house that tells why."""
