"""Everybill: plans of charges, compared over every history of use."""
