"""Listings of desks."""


def _amount_text(value):
    return str(value[0]) if value[1] == 1 else f"{value[0]}/{value[1]}"


def _numbers_line(word, numbers):
    return " ".join([word] + [str(number) for number in numbers])


def listing(desk):
    """Return the listing of a desk."""
    lines = [_numbers_line("lot", lot) for lot in desk.family_now.lots]
    lines.append(_numbers_line("tolls", desk.tolls_now.tops))
    lines.append(f"price {_amount_text(desk.price_now())}")
    lines.append(f"strain {_amount_text(desk.strain_now())}")
    lines.append(f"contacts {_amount_text(desk.contacts_now())}")
    for place, text in enumerate(desk.deeds):
        lines.append(f"{place + 1}. {text}")
    return "".join([line + "\n" for line in lines])
