"""A shell: a bench, and a keeper of its plan, that are used by lines of text."""

from touchrows.data.rows import row_text
from touchrows.data.stores import Store
from touchrows.errors import (
    InvalidOperation, InvalidQuestion, InvalidRow, InvalidView, NothingToUndo, Refused, RowAbsent, RowThere, TooMany,
    UnknownName,
)
from touchrows.keep.keepers import Keeper
from touchrows.plan.plans import flat_plan
from touchrows.text.answers import ASKED, CHANGES, KEPT, MOVES, VOWS, news_text, pledge_text
from touchrows.text.commands import command_in
from touchrows.text.texts import read_question
from touchrows.use.bench import Bench


class Shell:
    """A bench and a keeper of its plan, which answer commands."""

    def __init__(self, text):
        plan = flat_plan(read_question(text))
        self._bench = Bench(plan)
        self._keeper = Keeper(plan, Store(plan.question, {}))
        self._answered = []

    def answer(self, line):
        """The answer to a command, or a word for what is wrong with it."""
        command = command_in(line)
        if command is None:
            return "what"
        try:
            told = self._told(command[0], command[1])
        except InvalidQuestion:
            return "question"
        except InvalidRow:
            return "row"
        except InvalidView:
            return "view"
        except InvalidOperation:
            return "operation"
        except UnknownName:
            return "unknown"
        except RowThere:
            return "there"
        except RowAbsent:
            return "absent"
        except NothingToUndo:
            return "undo"
        except TooMany as excess:
            return f"many {excess.limit}"
        except Refused as refusal:
            return f"refused {pledge_text(refusal.pledge)}"
        self._answered.append(line)
        return told

    def _told(self, word, given):
        """The answer to a command that can be wrong only in what it is about."""
        if word in MOVES:
            return self._moved(word, given)
        if word in VOWS:
            action = VOWS[word]
            return news_text(action(self._bench, *given))
        if word in CHANGES:
            action = CHANGES[word]
            return row_text(action(self._keeper, *given))
        if word in KEPT:
            action = KEPT[word]
            return action(self._keeper)
        action = ASKED[word]
        return action(self._bench, *given)

    def _moved(self, word, given):
        """The answer to a command behind which the keeper begins anew."""
        # There can be no keeper for the new plan, so all is tried with a twin first.
        bench = self._bench.twin()
        action = MOVES[word]
        news = action(bench, *given)
        self._keeper = Keeper(bench.plan, Store(bench.question, self._keeper.store.rows))
        self._bench = bench
        return news_text(news)

    def bench(self):
        """A twin of the bench."""
        return self._bench.twin()

    def keeper(self):
        """A twin of the keeper."""
        return self._keeper.twin()

    def __call__(self, line):
        return self.answer(line)

    def __len__(self):
        return len(self._answered)
