"""Works: programs whose functions run one another within handlers."""

from askfurther.errors import BadHandlers, BadOperations
from askfurther.forms import are_operations, in_order, is_name
from askfurther.handlers import Handler
from askfurther.plans import Plan, are_equal_plans, functions_of

MOST_HANDLERS = 6


class Work:
    """A work: operations, handlers by names, and functions. It never changes."""

    def __init__(self, operations, handlers, functions):
        if not are_operations(operations):
            raise BadOperations()
        if not are_handlers(handlers):
            raise BadHandlers()
        self.named = in_order(handlers)
        self.plan = Plan(in_order(operations), self.named, functions)

    def operations(self):
        """The numbers of answers of its own operations."""
        return dict(self.plan.counts)

    def handlers(self):
        """The handlers by their names."""
        return dict(self.named)

    def functions(self):
        """The list of the functions, each a tuple of its name and its rows."""
        return functions_of(self.plan)

    def __eq__(self, other):
        return isinstance(other, Work) and are_equal_plans(self.plan, other.plan) and self.named == other.named


def are_handlers(thing):
    """Whether it is a dict from at most 6 names to handlers."""
    if not isinstance(thing, dict) or len(thing) > MOST_HANDLERS:
        return False
    return all([is_name(name) and isinstance(handler, Handler) for name, handler in thing.items()])
