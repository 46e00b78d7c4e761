"""Circles of letters that can be cut into words of a book at two unlike sets of places.

Two ways to cut go along beside each other. Where one of them is ahead of the other, the letters by which
it is are a knot: an end of a word, not all of it. The empty knot is where both cut, and go on unlike.
"""


def links_of_knots(words):
    """A dict from each knot to the list of (knot, words): where one further word leads, or two from the empty knot."""
    known = {word: True for word in words}
    begun = {}
    for word in words:
        for at in range(1, len(word) + 1):
            begun.setdefault(word[:at], []).append(word)
    knots = sorted({word[at:] for word in words for at in range(1, len(word))})
    links = {knot: links_from(knot, known, begun) for knot in knots}
    links[""] = [(word[at:], [word, word[:at]]) for word in words for at in range(1, len(word)) if word[:at] in known]
    return links


def links_from(knot, known, begun):
    """The list of (knot, words) to which a word leads that begins with a knot, or with which the knot begins."""
    longer = [(word[len(knot):], [word]) for word in begun.get(knot, [])]
    shorter = [(knot[at:], [knot[:at]]) for at in range(1, len(knot)) if knot[:at] in known]
    return longer + shorter


def lasting_links(links):
    """The links of those knots from which they lead on for ever."""
    size = len(links) + 1
    while len(links) < size:
        size = len(links)
        kept = {}
        for knot, found in links.items():
            further = [link for link in found if link[0] in links]
            if further:
                kept[knot] = further
        links = kept
    return links


def words_around(links, knot):
    """The list of the words on a shortest way from a knot back to it, or None."""
    seen = {}
    tried = [(knot, [])]
    while tried:
        longer = [(further, used + more) for before, used in tried for further, more in links[before]]
        tried = []
        for further, used in longer:
            if further == knot:
                return used
            if further not in seen:
                seen[further] = True
                tried.append((further, used))
    return None


def circle_in(words):
    """Some words of a book, in its order, of which such a circle can be made; None if it can be entered anywhere."""
    links = lasting_links(links_of_knots(words))
    for knot in links:
        used = words_around(links, knot)
        if used is not None:
            return tuple([word for word in words if word in used])
    return None
