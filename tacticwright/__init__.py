"""Tacticwright: rows of tactics that make reasons, and a small looker that takes reasons alone."""
