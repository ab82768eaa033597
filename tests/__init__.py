"""Tests of piecedeal."""
