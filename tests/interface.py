"""Checks that names of the interface are defined where the document lists them."""

import inspect


def defined_here(module, name):
    """Return whether the module itself defines this function or class."""
    thing = getattr(module, name, None)
    wanted = inspect.isclass(thing) or inspect.isfunction(thing)
    return wanted and thing.__module__ == module.__name__


def parameters(function):
    """Return the names of the parameters, without the object's own."""
    return [name for name in inspect.signature(function).parameters if name not in ("self", "cls")]


def check_interface(case, module, wanted):
    """Check that the module itself defines these functions and classes with these parameters."""
    for name, names in wanted.items():
        case.assertTrue(defined_here(module, name), name)
        case.assertEqual(parameters(getattr(module, name)), names)
