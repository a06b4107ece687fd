"""Shutroads: travellers on a map of which a few roads are shut, seen only from their ends."""
