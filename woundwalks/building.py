"""Webs with a post put up, changed or taken down."""


def without_post(web, crossing, name):
    """The web without the post of this name at this crossing."""
    return (web[0], tuple([post for post in web[1] if post[:2] != (crossing, name)]))


def with_arms(web, crossing, name, arms):
    """The web with just these arms at the post of this name at this crossing, which may stand already."""
    others = without_post(web, crossing, name)[1]
    return (web[0], tuple(sorted([*others, (crossing, name, arms)])))
