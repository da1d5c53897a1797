"""Undogates: rows of gates that lose nothing."""
