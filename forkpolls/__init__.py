"""Polls whose options change while votes stand."""
