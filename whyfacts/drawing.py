"""Drawing: a row of reasons as texts, one for each pair."""

from whyfacts.writing import shown_fact, shown_part


def places_in(row):
    places = {}
    for place, pair in enumerate(row, start=1):
        places[pair[0]] = place
    return places


def drawn_ground(ground, places):
    if ground[0] == "has":
        return str(places[ground[1]])
    return shown_part(ground)


def drawn_grounds(grounds, places):
    return ", ".join([drawn_ground(ground, places) for ground in grounds])


def drawn_reason(reason, places):
    if reason[0] == "told":
        return "told"
    fills = [reason[2]] if reason[0] == "by" else reason[3]
    shown = "; ".join([drawn_grounds(grounds, places) for grounds in fills])
    return reason[0] + " " + str(reason[1]) + " from " + shown


def drawn_pair(place, pair, places):
    return str(place) + " " + shown_fact(pair[0]) + ": " + drawn_reason(pair[1], places)


def drawn(row):
    places = places_in(row)
    return [drawn_pair(place, pair, places) for place, pair in enumerate(row, start=1)]
