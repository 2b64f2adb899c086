"""Wraptrails: can a program notice that its references are wrapped?"""
