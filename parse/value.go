package parse

import (
	"cmp"
	"slices"

	"pressmark/api"
	"pressmark/cos"
	"pressmark/lex"
)

// value passes an object in which at most depth arrays and dictionaries stand in one another.
func (p *Parser) value(depth int) (api.Obj, api.Errno) {
	t, e := p.Token()
	if e != api.OK {
		return cos.None(), e
	}
	return p.begun(t, depth)
}

// begun passes the rest of the object that t begins.
func (p *Parser) begun(t lex.Token, depth int) (api.Obj, api.Errno) {
	switch t.Kind {
	case lex.Whole:
		return p.whole(int(t.N)), api.OK
	case lex.Real:
		return cos.Real(t.N), api.OK
	case lex.Text:
		return cos.Str(t.B), api.OK
	case lex.Name:
		return cos.Name(string(t.B)), api.OK
	case lex.Word:
		return p.constant(t)
	case lex.Open, lex.Left:
		if depth == 0 {
			return cos.None(), p.back(t, api.ErrDepth)
		}
		return p.within(t, depth-1)
	}
	return cos.None(), p.wrong(t)
}

// constant is what a word says.
func (p *Parser) constant(t lex.Token) (api.Obj, api.Errno) {
	switch string(t.B) {
	case "true":
		return cos.Bool(true), api.OK
	case "false":
		return cos.Bool(false), api.OK
	case "null":
		return cos.None(), api.OK
	}
	return cos.None(), p.wrong(t)
}

// whole is the number n, or the Ref of that number, if what makes it one stands behind it: then that is passed.
func (p *Parser) whole(n int) api.Obj {
	if numbers(n) && p.refers() {
		return cos.Ref(n)
	}
	return cos.Int(n)
}

// numbers tells if n may be an object's number.
func numbers(n int) bool { return n >= 1 && n <= api.MaxNumber }

// refers passes a 0 and an R; where they do not stand it answers false and stays.
func (p *Parser) refers() bool {
	at := p.Pos()
	t, e := p.Token()
	if e == api.OK && t.Kind == lex.Whole && t.N == 0 && p.Keyword("R") {
		return true
	}
	p.Seek(at)
	return false
}

// within passes what stands behind a bracket, and the one that closes it. The list is made into an object as it is, for the makers of cos copy: what is deep would be copied once for each bracket around it.
func (p *Parser) within(t lex.Token, depth int) (api.Obj, api.Errno) {
	if t.Kind == lex.Open {
		l, e := p.items(depth)
		if e != api.OK {
			return cos.None(), e
		}
		return api.Obj{Kind: api.Arr, L: l}, api.OK
	}
	d, e := p.entries(depth)
	if e != api.OK {
		return cos.None(), e
	}
	return api.Obj{Kind: api.Dict, D: d}, api.OK
}

// items passes objects up to the bracket that closes an array.
func (p *Parser) items(depth int) ([]api.Obj, api.Errno) {
	var l []api.Obj
	for {
		t, e := p.Token()
		if e != api.OK {
			return nil, e
		}
		if t.Kind == lex.Close {
			return l, api.OK
		}
		o, e := p.begun(t, depth)
		if e != api.OK {
			return nil, e
		}
		l = append(l, o)
	}
}

// entries passes names and objects up to the brackets that close a dictionary, and answers them by rising keys.
func (p *Parser) entries(depth int) ([]api.Entry, api.Errno) {
	var d []api.Entry
	met := map[string]struct{}{} // those whose value is null, too
	for {
		t, e := p.Token()
		if e != api.OK {
			return nil, e
		}
		if t.Kind == lex.Right {
			slices.SortFunc(d, byKey)
			return d, api.OK
		}
		key := string(t.B)
		if _, again := met[key]; again || t.Kind != lex.Name {
			return nil, p.wrong(t)
		}
		met[key] = struct{}{}
		o, e := p.value(depth)
		if e != api.OK {
			return nil, e
		}
		if o.Kind != api.Null {
			d = append(d, api.Entry{Key: key, Val: o})
		}
	}
}

func byKey(a, b api.Entry) int { return cmp.Compare(a.Key, b.Key) }
