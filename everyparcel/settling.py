"""How several houses settle what they owe each other (point 87)."""

from everyparcel.errors import Invalid, Unknown


def house_postings(postings):
    """Those of the postings whose debtor and creditor are both houses."""
    return [posting for posting in postings if posting[1][0] == "house" and posting[2][0] == "house"]


def payments(balances):
    """The payments (payer, payee, cents) that settle the balances of houses."""
    if sum(list(balances.values())) != 0:
        raise Invalid("balances")
    left = dict(balances)
    payers = [name for name in sorted(balances) if balances[name] < 0]
    payees = [name for name in sorted(balances) if balances[name] > 0]
    found = []
    while payers:
        payer, payee = payers[0], payees[0]
        cents = min(-left[payer], left[payee])
        found.append((payer, payee, cents))
        left[payer] += cents
        left[payee] -= cents
        payers = [name for name in payers if left[name] != 0]
        payees = [name for name in payees if left[name] != 0]
    return found


def settled(balances, payments):
    """The balances after the payments."""
    left = dict(balances)
    for payer, payee, cents in payments:
        for name in (payer, payee):
            if name not in left:
                raise Unknown(name)
        left[payer] += cents
        left[payee] -= cents
    return left
