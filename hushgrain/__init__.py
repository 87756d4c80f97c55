"""Hushgrain: a query server that answers as precisely as its secrets allow."""
