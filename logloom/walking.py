"""The walk of a question over a log."""


def walked(question, log):
    found = [(n, question.found(log, n)) for n in range(len(log))]
    return tuple([told for told in found if told[1] is not None])
