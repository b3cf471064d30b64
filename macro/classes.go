package macro

import (
	"slices"

	"commonform/api"
	"commonform/forms"
)

// A slot is what a DEFCLASS says of one: forms for %DEFCLASS, and the methods that read and write it.
type slot struct {
	name, initarg, init, shared api.Form
	methods                     []api.Form
	met                         map[string]bool // keys
}

func (m *maker) defclass(l []api.Form) api.Form {
	counted(l, 3, -1)
	class := named(l[0])
	supers := items(l[1])
	for _, f := range supers {
		named(f)
	}
	a := m.fresh()
	b := m.fresh()
	var slots, methods []api.Form
	for _, f := range items(l[2]) {
		s := readSlot(f, class, a, b)
		slots = append(slots, call("LIST", quote(s.name), quote(s.initarg), s.init, s.shared))
		methods = append(methods, s.methods...)
	}
	made := call("%DEFCLASS", quote(class), quote(forms.List(supers)), call("LIST", slots...))
	return call("PROGN", slices.Concat([]api.Form{made}, methods, []api.Form{quote(class)})...)
}

// readSlot reads a slot of a class; a and b are the variables of methods.
func readSlot(f, class, a, b api.Form) slot {
	s := slot{name: f, initarg: forms.Nil(), init: forms.Nil(), shared: forms.Nil(), met: map[string]bool{}}
	if isSymbol(f) {
		return s
	}
	parts := counted(items(f), 1, -1)
	s.name = named(parts[0])
	need(len(parts)%2 == 1)
	for pair := range slices.Chunk(parts[1:], 2) {
		need(isSymbol(pair[0]) && pair[0].Home == keywords)
		s.read(pair[0].Text, pair[1], class, a, b)
	}
	return s
}

// read reads a key and a value. Of several values with one key the first one counts, but for readers and accessors.
func (s *slot) read(key string, value, class, a, b api.Form) {
	isFirst := !s.met[key]
	s.met[key] = true
	switch key {
	case "INITARG":
		put(&s.initarg, named(value), isFirst)
	case "INITFORM":
		put(&s.init, function(forms.Nil(), value), isFirst)
	case "ALLOCATION":
		isShared := forms.Is(value, keywords, "CLASS")
		need(isShared || forms.Is(value, keywords, "INSTANCE"))
		if isShared {
			put(&s.shared, symbol("T"), isFirst)
		}
	case "READER":
		s.addReader(named(value), class, a)
	case "ACCESSOR":
		s.addReader(named(value), class, a)
		s.addWriter(value, class, a, b)
	default:
		need(key == "TYPE" || key == "DOCUMENTATION")
	}
}

func put(to *api.Form, f api.Form, isWanted bool) {
	if isWanted {
		*to = f
	}
}

func (s *slot) addReader(r, class, a api.Form) {
	read := call("SLOT-VALUE", a, quote(s.name))
	s.methods = append(s.methods, call("DEFMETHOD", r, list(list(a, class)), read))
}

func (s *slot) addWriter(r, class, a, b api.Form) {
	write := call("%SET-SLOT-VALUE", b, quote(s.name), a)
	s.methods = append(s.methods, call("DEFMETHOD", call("SETF", r), list(a, list(b, class)), write))
}
