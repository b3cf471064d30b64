package forms

import (
	"strconv"

	"commonform/api"
)

// A label is what is known of a FormLabel.
type label struct {
	kid    api.Form
	used   bool   // there is a reference to it
	open   bool   // the walk is within its kid
	number string // its text in the new form, once the walk has come there
}

// labelsOf returns the labels of a form by their texts.
func labelsOf(f api.Form) map[string]*label {
	labels := map[string]*label{}
	for _, node := range walk(f) {
		switch node.Kind {
		case api.FormLabel:
			labels[node.Text] = &label{kid: node.Kids[0]}
		case api.FormRef:
			labels[node.Text].used = true
		}
	}
	return labels
}

// checkLabels returns the first error of labels and references in a form that is right without them.
func checkLabels(f api.Form) api.Errno {
	met := map[string]bool{}
	for _, node := range walk(f) {
		switch node.Kind {
		case api.FormLabel:
			kid := node.Kids[0].Kind
			switch {
			case met[node.Text]:
				return api.ErrTwice
			case kid == api.FormRef || kid == api.FormLabel:
				return ErrLabel
			}
			met[node.Text] = true
		case api.FormRef:
			if !met[node.Text] {
				return ErrLabel
			}
		}
	}
	return api.OK
}

// isAtom reports whether objects of a kind are the same wherever they are equal.
func isAtom(kind int) bool {
	return kind == api.FormSymbol || kind == api.FormChar || isNumber(kind)
}

// Normal returns a form with as few labels as possible, in order.
func Normal(f api.Form) (api.Form, api.Errno) {
	if e := Check(f); e != api.OK {
		return api.Form{}, e
	}
	n := &normalizer{labels: labelsOf(f)}
	normal := n.form(f)
	if e := checkSize(normal); e != api.OK {
		return api.Form{}, e
	}
	return normal, api.OK
}

// A normalizer makes the normal form of a right one.
type normalizer struct {
	labels map[string]*label
	count  int
}

func (n *normalizer) form(f api.Form) api.Form {
	switch f.Kind {
	case api.FormRef:
		l := n.labels[f.Text]
		if isAtom(l.kid.Kind) {
			return copied(l.kid)
		}
		return api.Form{Kind: api.FormRef, Text: l.number}
	case api.FormLabel:
		l := n.labels[f.Text]
		if isAtom(l.kid.Kind) || !l.used {
			return n.form(l.kid)
		}
		l.number = strconv.Itoa(n.count)
		n.count++
		kid := n.form(l.kid)
		return api.Form{Kind: api.FormLabel, Text: l.number, Kids: []api.Form{kid}}
	}
	var kids []api.Form
	for _, k := range f.Kids {
		kids = append(kids, n.form(k))
	}
	if f.Kind == api.FormCons {
		last := len(kids) - 1
		return cons(kids[:last], kids[last])
	}
	return api.Form{Kind: f.Kind, Text: f.Text, Home: f.Home, Kids: kids}
}

// Same reports whether two forms are the same object but for the numbers of labels.
func Same(a, b api.Form) (bool, api.Errno) {
	x, e := Normal(a)
	if e != api.OK {
		return false, e
	}
	y, e := Normal(b)
	if e != api.OK {
		return false, e
	}
	return Equal(x, y), api.OK
}

// Plain returns a form without labels: each reference is replaced.
func Plain(f api.Form) (api.Form, api.Errno) {
	if e := Check(f); e != api.OK {
		return api.Form{}, e
	}
	labels := labelsOf(f)
	if comesBack(f, labels) {
		return api.Form{}, ErrCircle
	}
	u := &unfolder{labels: labels}
	plain := u.form(f, 1)
	if u.full {
		return api.Form{}, api.ErrSize
	}
	return plain, api.OK
}

// comesBack reports whether a reference stands within the kid of its label.
func comesBack(f api.Form, labels map[string]*label) bool {
	switch f.Kind {
	case api.FormRef:
		return labels[f.Text].open
	case api.FormLabel:
		l := labels[f.Text]
		l.open = true
		is := comesBack(l.kid, labels)
		l.open = false
		return is
	}
	for _, k := range f.Kids {
		if comesBack(k, labels) {
			return true
		}
	}
	return false
}

// An unfolder makes the tree without labels, and stops where it would become too great: references to references may make it very great.
type unfolder struct {
	labels map[string]*label
	nodes  int
	full   bool
}

// object returns the form for which a label or a reference stands, and any other one as it is.
func (u *unfolder) object(f api.Form) api.Form {
	if f.Kind == api.FormLabel || f.Kind == api.FormRef {
		return u.labels[f.Text].kid
	}
	return f
}

func (u *unfolder) form(f api.Form, depth int) api.Form {
	f = u.object(f)
	u.nodes++
	if u.nodes > api.MaxForm || depth > api.MaxDepth {
		u.full = true
	}
	plain := api.Form{Kind: f.Kind, Text: f.Text, Home: f.Home}
	for !u.full && len(f.Kids) > 0 {
		last := len(f.Kids) - 1
		for _, k := range f.Kids[:last] {
			plain.Kids = append(plain.Kids, u.form(k, depth+1))
		}
		tail := u.object(f.Kids[last])
		if f.Kind == api.FormCons && tail.Kind == api.FormCons {
			f = tail // the list goes on
			continue
		}
		plain.Kids = append(plain.Kids, u.form(tail, depth+1))
		break
	}
	return plain
}
