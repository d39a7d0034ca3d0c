"""Firingrules: rules that fire when tables change."""
