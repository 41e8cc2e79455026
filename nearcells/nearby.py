"""The sites that are nearest to a place, and along a way, for sites that are known to be valid."""

from nearcells.plane import spread_square


def site_at(rows, place):
    """The site that is at a place, or None."""
    x, y, d = place
    return (x, y) if d == 1 and (x, y) in rows else None


def nearest_rows(rows, place):
    """The sites that are nearest to a place, in the order in which they are passed."""
    squares = [spread_square(place, site) for site in rows]
    least = min(squares)
    return [site for site, square in zip(rows, squares) if square == least]


def spans_along(rows, a, b):
    """The parts of the way from place a to place b that have the same nearest sites.

    Returns a list of tuples (top, bottom, sites), sites ascending: the part begins behind the
    share top / bottom of the way. Parts without a length are left out.
    """
    chain, twins = lowest_lines(rows, a, b)
    spans = [(0, 1, with_twin(chain[0][2], twins))]
    for (first, first_end, _), (begin, end, site) in zip(chain, chain[1:]):
        top = begin - first
        spans.append((top, top + first_end - end, with_twin(site, twins)))
    return spans


def with_twin(site, twins):
    """A site, and the one that is as far from the whole way, if there is one."""
    return [site, twins[site]] if site in twins else [site]


def lowest_lines(rows, a, b):
    """Tuples of the distances at both ends of a way, and the nearest site, for each part of it.

    Behind them a dict: for a site of these the greater one that is as far from the whole way.

    The distances are told as the squared ones, less what these have in common for all sites,
    times a number. So they change evenly along the way: those that come below others later are
    greater at the begin, and less at the end.
    """
    ax, ay, ad = a
    bx, by, bd = b
    k, p, q = ad * bd, -2 * bd * ax, -2 * bd * ay
    u, v = -2 * ad * bx - p, -2 * ad * by - q
    lines = []
    for site in rows:
        x, y = site
        begin = x * (k * x + p) + y * (k * y + q)
        lines.append((begin, begin + u * x + v * y, site))
    lines = sorted(lines)
    chain, twins, least = [], {}, lines[0][1] + 1
    for line in lines:
        begin, end, site = line
        if end < least:
            while len(chain) > 1:
                first, first_end, _ = chain[-2]
                last, last_end, _ = chain[-1]
                # The last one is of use if it comes below the one before it ahead of this one.
                if (last - first) * (last_end - end) < (begin - last) * (first_end - last_end):
                    break
                chain.pop()
            chain.append(line)
            least = end
        elif end == least and begin == chain[-1][0]:
            twins[chain[-1][2]] = site
    return (chain, twins)
