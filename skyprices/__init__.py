"""Skyprices: what comes down from many craft, and what it must be worth."""
