"""Questions, and the columns of their answers."""

from standviews.forms import columns_in


def columns_of(plan, question):
    """The columns of the question's answer."""
    return columns_in(plan, "all", question)


def is_question(plan, thing):
    """Whether this is a question of the plan."""
    return columns_of(plan, thing) is not None
