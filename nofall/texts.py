"""Webs and one-way webs as texts, a line for each tie."""


def tie_line(word, tie):
    a = tie[0]
    b = tie[1]
    return f"{word} {a} {b}"


def written(web, word):
    places = web[0]
    return "\n".join([f"places {places}"] + [tie_line(word, tie) for tie in web[1]])


def show_web(web):
    return written(web, "tie")


def show_one_way(one):
    return written(one, "lead")
