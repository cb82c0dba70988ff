"""Curveseal: curve arithmetic and signatures."""
