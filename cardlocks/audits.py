"""The calls of one list, done one after another on a new table."""

from cardlocks.callreader import CallReader
from cardlocks.operations import Session, answer_next


def answers(calls):
    session = Session()
    reader = CallReader(calls)
    told = []
    while not reader.at_end():
        answer = answer_next(session, reader)
        told.append(len(answer))
        told.extend(answer)
    return told
