"""Bothdoors: doors that count who goes through, but not which way."""
