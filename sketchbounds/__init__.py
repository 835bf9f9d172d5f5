"""Sketchbounds: small keepsakes of long streams, with bounds."""
