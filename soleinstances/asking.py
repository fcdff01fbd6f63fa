"""How the outcome of a question is found. Questions and wants are kept heads here."""

from soleinstances.errors import Clash
from soleinstances.headrows import is_more_special, is_open
from soleinstances.heads import head_with
from soleinstances.matching import matches_in, others_in, told_by_form


class Asking:
    """Questions asked in one package, under one book, with the same told wants."""

    def __init__(self, book, package, taken):
        self.rules = book
        self.by_form = told_by_form(package)
        self.taken = taken
        self.outcomes = {}

    def ask(self, question):
        """The answer to a question, or None; raises Clash if it, or a want of it, clashes."""
        if question not in self.outcomes:
            self.outcomes[question] = self._answer(question)
        return self.outcomes[question]

    def _answer(self, question):
        """The answer to a question that was not asked yet."""
        if is_open(question):
            if question in self.taken:
                return ("", self.taken.index(question), ())
            if self.rules.early == "refused":
                return None
            if self.rules.early == "wait" and len(others_in(self.by_form, question)) > 0:
                return None
        candidates = self._candidates(question)
        if len(candidates) == 0:
            return None
        chosen = self._chosen(candidates)
        if chosen is None:
            raise Clash(head_with(question), [one[:2] for one in candidates])
        name, number, _, wants = chosen
        answers = [self.ask(want) for want in wants]
        return None if None in answers else (name, number, tuple(answers))

    def _candidates(self, question):
        """The list of the candidates, which is empty also if the question has to wait for one of the matches."""
        matching = matches_in(self.by_form, question)
        if self.rules.wants == "behind":
            return matching
        candidates = []
        has_to_wait = False
        for one in matching:
            # All wants are asked, also where one without an answer has settled it already: a later one may clash.
            missing = [want for want in one[3] if self.ask(want) is None]
            if len(missing) == 0:
                candidates.append(one)
            elif self.rules.early == "wait" and any([is_open(want) for want in missing]):
                # No closed question comes here: its wants are closed.
                has_to_wait = True
        return [] if has_to_wait else candidates

    def _chosen(self, candidates):
        """The candidate that is chosen, or None if there is none such."""
        if self.rules.choose == "special":
            return _most_special(candidates)
        if len(candidates) == 1:
            return candidates[0]
        tellers = len({one[0] for one in candidates})
        return candidates[0] if self.rules.choose == "first" and tellers == 1 else None


def _most_special(candidates):
    """The candidate whose head is more special than that of each other one, or None."""
    for at, one in enumerate(candidates):
        others = candidates[:at] + candidates[at + 1:]
        if all([is_more_special(one[2], other[2]) for other in others]):
            return one
    return None
