"""Askfurther: bodies that ask, handlers that answer."""
