package regex

import (
	"strings"

	"strainer/api"
)

// reader reads an expression from its beginning on.
type reader struct {
	left string // what is not read yet; nothing, once bad, so that all that reads on ends
	bad  bool   // what was read is not of the form
}

// expression reads an expression, up to a `)` that ends nothing in it.
func (r *reader) expression() part {
	l := []part{r.branch()}
	for r.took('|') {
		l = append(l, r.branch())
	}
	return either(l...)
}

// branch reads a branch.
func (r *reader) branch() part {
	var l []part
	for r.left != "" && !r.at("|)") {
		l = append(l, r.piece())
	}
	return row(l...)
}

// piece reads a piece.
func (r *reader) piece() part {
	p := r.atom()
	for r.at("*+?") {
		p = &repeat{p, r.take()}
	}
	return p
}

// atom reads an atom.
func (r *reader) atom() part {
	switch {
	case r.took('('):
		p := r.expression()
		if !r.took(')') {
			r.fail()
		}
		return p
	case r.took('['):
		return r.class()
	case r.took('.'):
		return between(api.First, api.Last)
	}
	c := r.sign(special)
	return between(c, c)
}

// class reads a class, and the `]` behind it.
func (r *reader) class() signs {
	not := r.took('^')
	p := r.item()
	for !r.bad && !r.took(']') {
		p = p.with(r.item())
	}
	if not {
		return p.others()
	}
	return p
}

// item reads an item of a class.
func (r *reader) item() signs {
	low := r.sign(specialInClass)
	high := low
	if r.took('-') {
		high = r.sign(specialInClass)
	}
	if high < low {
		r.fail()
	}
	return between(low, high)
}

// sign reads a sign: any one behind a `\`, or one that is not special.
func (r *reader) sign(special string) byte {
	escaped := r.took('\\')
	c := r.take()
	if c < api.First || c > api.Last || !escaped && strings.IndexByte(special, c) >= 0 {
		r.fail()
	}
	return c
}

// at tells whether one of some signs stands next.
func (r *reader) at(some string) bool {
	return r.left != "" && strings.IndexByte(some, r.left[0]) >= 0
}

// took reads that sign, and tells whether it stands next.
func (r *reader) took(c byte) bool {
	is := r.left != "" && r.left[0] == c
	if is {
		r.left = r.left[1:]
	}
	return is
}

// take reads a byte; 0, which is no sign, if there is none.
func (r *reader) take() byte {
	if r.left == "" {
		return 0
	}
	c := r.left[0]
	r.left = r.left[1:]
	return c
}

// fail ends the reading.
func (r *reader) fail() {
	r.left, r.bad = "", true
}
