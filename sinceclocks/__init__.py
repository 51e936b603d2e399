"""Machines that ask only how long ago each letter came last, over rows of letters with exact times."""
