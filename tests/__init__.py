"""Tests of skyprices, one file for each part."""
