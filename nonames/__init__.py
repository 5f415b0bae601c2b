"""Nonames: what can be made of nameless things by rules that see no names."""
