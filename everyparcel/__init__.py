"""Everyparcel: a parcel house that tells exactly where each parcel can be."""
