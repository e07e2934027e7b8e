"""Steppedtests: the next question by the last answer, decided for all pupils."""
