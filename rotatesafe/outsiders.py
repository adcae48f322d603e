"""What an outsider who records all messages knows in the end.

A version is a pair (secret, "old") or (secret, "new"). A message is a pair of the version that
it contains and a tuple of all the versions with which it is encrypted.
"""


def can_read(keys, known):
    """Return whether someone who knows some keys can read what is encrypted with all of these."""
    return all([key in known for key in keys])


def past_messages(world):
    """Return the messages by which the old versions once came to the services."""
    messages = []
    for use in world.uses:
        channel = world.channel(use)
        # Without a channel the old version came by courier, and nobody else could see it.
        if channel:
            messages.append(((use[1], "old"), tuple([(secret, "old") for secret in channel])))
    return messages


def known_versions(world, suspicion, messages):
    """Return a dict of the versions that an outsider knows, who also recorded some messages."""
    known = {(secret, "old"): True for secret in suspicion}
    unread = past_messages(world) + messages
    learned = True
    # A message can become readable by one that was sent after it, so all are tried again.
    while learned:
        learned = False
        for content, keys in unread:
            if content not in known and can_read(keys, known):
                known[content] = True
                learned = True
    return known
