package unit

import (
	"strings"

	"klaxon/api"
	"klaxon/lex"
	"klaxon/lset"
	"klaxon/num"
	"klaxon/rule"
)

// line is the tokens of one line, gone through one behind the other.
type line struct {
	text   string
	tokens []api.Token
	next   int
}

// Parse is the test that s is a text of.
func Parse(s string) (api.Unit, int, api.Errno) {
	var u api.Unit
	begun := false
	behind := 0
lines:
	for text := range strings.SplitSeq(s, "\n") {
		begin := behind
		behind += len(text) + 1
		tokens, at, err := lex.Tokens(text)
		switch {
		case err != api.OK:
			return api.Unit{}, begin + at, err
		case len(tokens) == 0:
			continue lines
		}
		l := &line{text: text, tokens: tokens}
		if begun {
			at, err = l.other(&u)
		} else {
			at, err = l.step(&u)
		}
		if err != api.OK {
			return api.Unit{}, begin + at, err
		}
		begun = true
	}
	switch {
	case !begun:
		return api.Unit{}, len(s), api.ErrForm
	case !Right(u):
		return api.Unit{}, 0, api.ErrRule
	}
	return u, 0, api.OK
}

// capped is l with x; of what is too many one is enough, so that a long text of short lines needs no room.
func capped[T any](l []T, x T, most int) []T {
	if len(l) > most {
		return l
	}
	return append(l, x)
}

func (l *line) more() bool {
	return l.next < len(l.tokens)
}

// at is the byte where the next token begins, or the line ends.
func (l *line) at() int {
	if l.more() {
		return l.tokens[l.next].At
	}
	return len(l.text)
}

// take goes on behind the next token, if it is of that kind.
func (l *line) take(kind int) (api.Token, bool) {
	if !l.more() || l.tokens[l.next].Kind != kind {
		return api.Token{}, false
	}
	l.next++
	return l.tokens[l.next-1], true
}

// skip goes on behind the next token, if it is that one.
func (l *line) skip(kind int, text string) bool {
	if !l.more() || l.tokens[l.next].Text != text {
		return false
	}
	_, ok := l.take(kind)
	return ok
}

// done is the end of a line that is read so far: OK, if that was all, and well.
func (l *line) done(ok bool) (int, api.Errno) {
	if !ok || l.more() {
		return l.at(), api.ErrForm
	}
	return 0, api.OK
}

// step reads the first line.
func (l *line) step(u *api.Unit) (int, api.Errno) {
	ok := l.skip(api.TWord, "step")
	if !ok {
		return l.done(false)
	}
	n, ok := l.take(api.TNum)
	u.Step = n.N
	return l.done(ok)
}

// other reads each line but the first.
func (l *line) other(u *api.Unit) (int, api.Errno) {
	switch {
	case l.skip(api.TWord, "series"):
		return l.series(u)
	case l.skip(api.TWord, "at"):
		return l.check(u)
	case l.skip(api.TWord, "alert"):
		r, at, err := rule.Parse(l.text)
		if err != api.OK {
			return at, err
		}
		u.Rules = capped(u.Rules, r, api.MaxRules)
		return 0, api.OK
	}
	return l.done(false)
}

// set reads a set as it is printed.
func (l *line) set() ([]api.Label, bool) {
	begin := l.next
	ok := l.skip(api.TSign, "{")
	var set []api.Label
	for ok && !l.skip(api.TSign, "}") {
		if len(set) > 0 && !l.skip(api.TSign, ",") {
			return nil, false
		}
		var x api.Label
		x, ok = l.label()
		set = append(set, x)
	}
	if ok && !lset.Right(set) {
		l.next, ok = begin, false
	}
	return set, ok
}

func (l *line) label() (api.Label, bool) {
	name, ok := l.take(api.TWord)
	if !ok || !l.skip(api.TSign, "=") {
		return api.Label{}, false
	}
	value, ok := l.take(api.TText)
	return api.Label{Name: name.Text, Value: value.Text}, ok
}

// series reads a set, and values up to the end.
func (l *line) series(u *api.Unit) (int, api.Errno) {
	set, ok := l.set()
	if !ok {
		return l.done(false)
	}
	f := api.Feed{Set: set}
values:
	for l.more() {
		at := l.at()
		if l.skip(api.TWord, "gap") {
			count, ok := l.gaps()
			if !ok {
				return l.done(false)
			}
			for range count {
				f.Vals = capped(f.Vals, api.Value{Gap: true}, api.MaxTicks)
			}
			continue values
		}
		n, by, count, ok := l.numbers()
		if !ok {
			return l.done(false)
		}
		f.Vals = capped(f.Vals, api.Value{N: n}, api.MaxTicks)
		for range count {
			next, err := num.Add(n, by)
			if err != api.OK {
				return at, err
			}
			n = next
			f.Vals = capped(f.Vals, api.Value{N: n}, api.MaxTicks)
		}
	}
	u.Feeds = capped(u.Feeds, f, api.MaxSeries)
	return l.done(true)
}

// gaps reads what stands behind gap: how many there are.
func (l *line) gaps() (int, bool) {
	if !l.skip(api.TWord, "by") {
		return 1, true
	}
	return l.count(1)
}

// numbers reads a number, and if one more is added how often: where it begins, what is added, how often.
func (l *line) numbers() (n, by, count int, ok bool) {
	first, ok := l.take(api.TNum)
	if !ok || !l.skip(api.TSign, "+") {
		return first.N, 0, 0, ok
	}
	step, ok := l.take(api.TNum)
	if !ok || !l.skip(api.TWord, "by") {
		return 0, 0, 0, false
	}
	count, ok = l.count(0)
	return first.N, step.N, count, ok
}

// count reads a number from least to MaxTicks.
func (l *line) count(least int) (int, bool) {
	n, ok := l.take(api.TNum)
	if ok && (n.N < least || n.N > api.MaxTicks) {
		l.next--
		ok = false
	}
	return n.N, ok
}

// check reads a tick, a rule's name, and sets up to the end.
func (l *line) check(u *api.Unit) (int, api.Errno) {
	tick, ok := l.take(api.TNum)
	if !ok {
		return l.done(false)
	}
	name, ok := l.take(api.TWord)
	c := api.Check{Tick: tick.N, Name: name.Text}
	for ok && l.more() {
		var set []api.Label
		set, ok = l.set()
		c.Sets = append(c.Sets, set)
	}
	u.Checks = capped(u.Checks, c, api.MaxTicks)
	return l.done(ok)
}
