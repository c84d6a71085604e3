"""Fires: purses burnt from a base, and settled ones (points 11 and 12)."""


def burnt(web, purse, base):
    fire = [base]
    house = house_to_burn(web, purse, fire)
    while house is not None:
        fire.append(house)
        house = house_to_burn(web, purse, fire)
    return fire


def house_to_burn(web, purse, fire):
    for house, coins in enumerate(purse):
        if house not in fire and coins < ties_to(web, house, fire):
            return house
    return None


def ties_to(web, house, others):
    return sum([web[house][other] for other in others])


def is_settled(web, purse, base):
    return len(in_debt(purse, base)) == 0 and len(burnt(web, purse, base)) == len(web)


def in_debt(purse, base):
    return [house for house, coins in enumerate(purse) if house != base and coins < 0]
