"""Growwebs: endless webs that grow from a finite book."""
