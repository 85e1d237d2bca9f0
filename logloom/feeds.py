"""Feeds: a question over a text that comes in pieces, cut anywhere."""

from logloom.asking import question_of
from logloom.watches import Watch


class Feed:
    def __init__(self, loom, question):
        self.loom = loom
        self.watch = Watch(question_of(question))
        self.rest = ""

    def take(self, text):
        texts = (self.rest + text).split("\n")
        # Asked ahead of any change: behind the end the watch refuses, and nothing is to be changed then.
        told = self.watch.take(self.loom.log(tuple(texts[:-1])))
        self.rest = texts[-1]
        return told

    def end(self):
        texts = () if self.rest == "" else (self.rest,)
        told = self.watch.take(self.loom.log(texts))
        return told + self.watch.end()
