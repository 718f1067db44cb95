package expr

import (
	"klaxon/api"
	"klaxon/lex"
)

// fault is why reading stopped: the first token that can't go on so, and what is wrong with it.
type fault struct {
	at  int
	err api.Errno
}

// reader goes through tokens, one behind the other. Once it has a fault it goes no further.
type reader struct {
	tokens []api.Token
	next   int
	end    int // the byte of a fault at the end
	fault  fault
}

// Parse is the expression that s is a text of.
func Parse(s string) (api.Expr, int, api.Errno) {
	tokens, at, err := lex.Tokens(s)
	if err != api.OK {
		return api.Expr{}, at, err
	}
	return read(tokens, len(s))
}

// Read is the expression that these are the tokens of.
func Read(ts []api.Token) (api.Expr, int, api.Errno) {
	end := 0
	if len(ts) > 0 {
		end = ts[len(ts)-1].At + 1
	}
	return read(ts, end)
}

func read(tokens []api.Token, end int) (api.Expr, int, api.Errno) {
	r := &reader{tokens: tokens, end: end}
	x := r.expr(1)
	if r.next < len(r.tokens) {
		r.fail(api.ErrForm)
	}
	switch {
	case r.fault.err != api.OK:
		return api.Expr{}, r.fault.at, r.fault.err
	case Type(x) == None:
		return api.Expr{}, 0, api.ErrForm
	}
	return x, 0, api.OK
}

// peek is the next token; zero at the end, and behind a fault.
func (r *reader) peek() api.Token {
	if r.fault.err != api.OK || r.next >= len(r.tokens) {
		return api.Token{}
	}
	return r.tokens[r.next]
}

// fail tells the fault of the next token, if there was none ahead.
func (r *reader) fail(err api.Errno) {
	if r.fault.err != api.OK {
		return
	}
	at := r.end
	if r.next < len(r.tokens) {
		at = r.tokens[r.next].At
	}
	r.fault = fault{at: at, err: err}
}

// is says whether the next token is that one.
func (r *reader) is(kind int, text string) bool {
	t := r.peek()
	return t.Kind == kind && t.Text == text
}

// take goes on behind the next token, if it is of that kind.
func (r *reader) take(kind int) api.Token {
	t := r.peek()
	if t.Kind != kind {
		r.fail(api.ErrForm)
		return api.Token{}
	}
	r.next++
	return t
}

// must goes on behind the next token, if it is that one.
func (r *reader) must(kind int, text string) {
	if !r.is(kind, text) {
		r.fail(api.ErrForm)
		return
	}
	r.next++
}

// skip goes on behind the next token, if it is that one, and says whether it was.
func (r *reader) skip(kind int, text string) bool {
	if !r.is(kind, text) {
		return false
	}
	r.next++
	return true
}

// expr reads an expression that has deep - 1 others around it.
func (r *reader) expr(deep int) api.Expr {
	t := r.peek()
	kind := kindOfWord(t)
	switch {
	case t.Kind != api.TNum && kind == 0 && !r.is(api.TSign, "{") && !r.is(api.TSign, "("):
		r.fail(api.ErrForm)
		return api.Expr{}
	case deep > api.MaxDeep:
		r.fail(api.ErrDeep)
		return api.Expr{}
	case t.Kind == api.TNum:
		return api.Expr{Kind: api.XNum, N: r.take(api.TNum).N}
	case kind != 0:
		return r.ofOne(kind, deep)
	case r.is(api.TSign, "{"):
		return r.pick()
	}
	return r.ofTwo(deep)
}

// kindOfWord is the kind of the expression of one that t begins; 0 if it begins none.
func kindOfWord(t api.Token) int {
	for kind := api.XSum; t.Kind == api.TWord && kind <= api.XCount; kind++ {
		if t.Text == word(kind) {
			return kind
		}
	}
	return 0
}

// pick reads matchers, and how far to look back.
func (r *reader) pick() api.Expr {
	x := api.Expr{Kind: api.XPick}
	r.must(api.TSign, "{")
	for r.fault.err == api.OK && !r.skip(api.TSign, "}") {
		if len(x.Ms) > 0 {
			r.must(api.TSign, ",")
		}
		x.Ms = append(x.Ms, r.matcher())
	}
	r.must(api.TSign, "[")
	x.N = r.take(api.TNum).N
	r.must(api.TSign, "]")
	return x
}

func (r *reader) matcher() api.Matcher {
	m := api.Matcher{Name: r.take(api.TWord).Text}
	switch {
	case r.skip(api.TSign, "="):
		m.Kind = api.MEq
	case r.skip(api.TSign, "!="):
		m.Kind = api.MNe
	case r.skip(api.TSign, "^="):
		m.Kind = api.MHas
	case r.skip(api.TSign, "!^"):
		m.Kind = api.MNot
	default:
		r.fail(api.ErrForm)
	}
	m.Value = r.take(api.TText).Text
	return m
}

// ofOne reads a word, by, names, and a kid.
func (r *reader) ofOne(kind, deep int) api.Expr {
	x := api.Expr{Kind: kind}
	r.take(api.TWord)
	r.must(api.TWord, "by")
	r.must(api.TSign, "(")
	for r.fault.err == api.OK && !r.skip(api.TSign, ")") {
		if len(x.Names) > 0 {
			r.must(api.TSign, ",")
		}
		x.Names = append(x.Names, r.take(api.TWord).Text)
	}
	r.must(api.TSign, "(")
	x.Kids = []api.Expr{r.expr(deep + 1)}
	r.must(api.TSign, ")")
	return x
}

// ofTwo reads two kids, and the sign between them.
func (r *reader) ofTwo(deep int) api.Expr {
	r.must(api.TSign, "(")
	first := r.expr(deep + 1)
	kind := r.between()
	second := r.expr(deep + 1)
	r.must(api.TSign, ")")
	return api.Expr{Kind: kind, Kids: []api.Expr{first, second}}
}

// between reads the sign of an expression of two: some are signs, some are words.
func (r *reader) between() int {
	for kind := api.XAdd; kind <= api.XUnless; kind++ {
		token := api.TSign
		if kind >= api.XAnd {
			token = api.TWord
		}
		if r.skip(token, sign(kind)) {
			return kind
		}
	}
	r.fail(api.ErrForm)
	return 0
}
