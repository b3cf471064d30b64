package loop

import (
	"commonform/api"
	"commonform/forms"
)

// A reader takes clauses from the elements that are left.
type reader struct{ left []api.Form }

// parse returns the clauses of the elements of a LOOP form.
func parse(l []api.Form) ([]Clause, api.Errno) {
	if areCompound(l) {
		return nil, api.ErrForm
	}
	var all []Clause
	r := &reader{l}
	for len(r.left) > 0 {
		c, ok := r.clause()
		if !ok {
			return nil, api.ErrForm
		}
		all = append(all, c)
	}
	return all, api.OK
}

// word returns the text of the next element, if it is a word.
func (r *reader) word() string {
	if len(r.left) == 0 || r.left[0].Kind != api.FormSymbol {
		return ""
	}
	return r.left[0].Text
}

// take takes the next element.
func (r *reader) take() (api.Form, bool) {
	if len(r.left) == 0 {
		return api.Form{}, false
	}
	f := r.left[0]
	r.left = r.left[1:]
	return f, true
}

// skip takes a word, if it is next.
func (r *reader) skip(word string) bool {
	if r.word() != word {
		return false
	}
	r.take()
	return true
}

func (r *reader) variable() (api.Form, bool) {
	f, ok := r.take()
	return f, ok && isVariable(f)
}

// words returns what reads clauses, by their first words.
func (r *reader) words() map[string]func() (Clause, bool) {
	table := map[string]func() (Clause, bool){
		"NAMED":     r.named,
		"WITH":      r.with,
		"INITIALLY": r.compound(Initially),
		"FINALLY":   r.compound(Finally),
		"FOR":       r.iteration,
		"AS":        r.iteration,
		"REPEAT":    r.one(Repeat),
		"WHILE":     r.one(While),
		"UNTIL":     r.one(Until),
		"ALWAYS":    r.one(Always),
		"NEVER":     r.one(Never),
		"THEREIS":   r.one(Thereis),
		"RETURN":    r.one(Return),
		"DO":        r.compound(Do),
		"DOING":     r.compound(Do),
		"IF":        r.condition(If),
		"WHEN":      r.condition(If),
		"UNLESS":    r.condition(Unless),
	}
	// SUMING is what the chapter's rule makes of SUM; SUMMING is the word of the standard.
	for _, into := range [...]struct {
		kind  int
		words []string
	}{
		{Collect, []string{"COLLECT", "COLLECTING"}},
		{Append, []string{"APPEND", "APPENDING"}},
		{Sum, []string{"SUM", "SUMING", "SUMMING"}},
		{Count, []string{"COUNT", "COUNTING"}},
		{Maximize, []string{"MAXIMIZE", "MAXIMIZING"}},
		{Minimize, []string{"MINIMIZE", "MINIMIZING"}},
	} {
		for _, word := range into.words {
			table[word] = r.accumulation(into.kind)
		}
	}
	return table
}

// clause takes a clause.
func (r *reader) clause() (Clause, bool) {
	read := r.words()[r.word()]
	if read == nil {
		return Clause{}, false
	}
	r.take()
	return read()
}

func (r *reader) named() (Clause, bool) {
	f, ok := r.take()
	return Clause{Kind: Named, Var: f}, ok && f.Kind == api.FormSymbol
}

func (r *reader) with() (Clause, bool) {
	v, ok := r.variable()
	x := forms.Nil()
	if ok && r.skip("=") {
		x, ok = r.take()
	}
	return Clause{Kind: With, Var: v, Forms: []api.Form{x}}, ok
}

// one reads a clause with one form.
func (r *reader) one(kind int) func() (Clause, bool) {
	return func() (Clause, bool) {
		x, ok := r.take()
		return Clause{Kind: kind, Forms: []api.Form{x}}, ok
	}
}

// compound reads a clause with all lists that follow.
func (r *reader) compound(kind int) func() (Clause, bool) {
	return func() (Clause, bool) {
		c := Clause{Kind: kind}
		for len(r.left) > 0 && r.left[0].Kind == api.FormCons {
			x, _ := r.take()
			c.Forms = append(c.Forms, x)
		}
		return c, len(c.Forms) > 0
	}
}

// accumulation reads a clause whose values are put together, in a variable if INTO follows.
func (r *reader) accumulation(kind int) func() (Clause, bool) {
	return func() (Clause, bool) {
		x, ok := r.take()
		v := forms.Nil()
		if ok && r.skip("INTO") {
			v, ok = r.variable()
		}
		return Clause{Kind: kind, Var: v, Forms: []api.Form{x}}, ok
	}
}

// condition reads a clause around others.
func (r *reader) condition(kind int) func() (Clause, bool) {
	return func() (Clause, bool) {
		x, ok := r.take()
		c := Clause{Kind: kind, Forms: []api.Form{x}}
		if ok {
			c.Then, ok = r.selectable()
		}
		if ok && r.skip("ELSE") {
			c.Else, ok = r.selectable()
		}
		if ok {
			r.skip("END")
		}
		return c, ok
	}
}

// selectable takes selectable clauses with AND between them.
func (r *reader) selectable() ([]Clause, bool) {
	var all []Clause
	for {
		c, ok := r.clause()
		if !ok || !isSelectable(c.Kind) {
			return nil, false
		}
		all = append(all, c)
		if !r.skip("AND") {
			return all, true
		}
	}
}

// iteration reads what stands behind FOR.
func (r *reader) iteration() (Clause, bool) {
	v, ok := r.variable()
	if !ok {
		return Clause{}, false
	}
	c := Clause{Kind: Arithmetic, Var: v}
	more := ""
	switch r.word() {
	case "IN":
		c.Kind, more = In, "BY"
	case "ON":
		c.Kind, more = On, "BY"
	case "ACROSS":
		c.Kind = Across
	case "=":
		c.Kind, more = Equals, "THEN"
	default:
		c.Forms, ok = r.arithmetic()
		return c, ok
	}
	r.take()
	x, ok := r.take()
	c.Forms = []api.Form{x}
	if ok && more != "" && r.skip(more) {
		x, ok = r.take()
		c.Forms = append(c.Forms, x)
	}
	return c, ok
}
