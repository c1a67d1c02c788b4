"""Narrowadds: programs of additions between registers of unlike sizes."""
