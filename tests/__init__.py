"""Tests of duehouse."""
