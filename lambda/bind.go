package lambda

import (
	"strconv"

	"commonform/api"
	"commonform/forms"
)

// A binder makes the bindings of a LET* one by one.
type binder struct {
	bindings []api.Form
	next     int // the name of the next fresh symbol
}

// Bind returns a form that binds the variables of a macro's lambda list.
func Bind(l List, from api.Form, body []api.Form, next int) (api.Form, int, api.Errno) {
	if _, e := Show(l); e != api.OK {
		return api.Form{}, 0, e
	}
	b := &binder{next: next}
	b.list(l, b.keep(from))
	all := append([]api.Form{forms.List(b.bindings)}, body...)
	return forms.Call("LET*", all), b.next, api.OK
}

func call(name string, args ...api.Form) api.Form { return forms.Call(name, args) }

func quote(f api.Form) api.Form { return call("QUOTE", f) }

// bad is what is evaluated where a list does not fit.
func bad() api.Form { return call("%BAD-FORM") }

func (b *binder) fresh() api.Form {
	f := forms.Symbol("%", strconv.Itoa(b.next))
	b.next++
	return f
}

func (b *binder) bind(variable, value api.Form) {
	b.bindings = append(b.bindings, forms.List([]api.Form{variable, value}))
}

// keep binds a fresh variable, and returns it.
func (b *binder) keep(value api.Form) api.Form {
	f := b.fresh()
	b.bind(f, value)
	return f
}

// list binds the variables of a list to the parts of what a variable has. Whether that fits is looked at ahead of all bindings.
func (b *binder) list(l List, from api.Form) {
	left := b.lefts(l, from)
	behind := left[len(left)-1]
	b.check(l, from, behind)
	for _, item := range l.Items {
		switch item.Kind {
		case Required:
			b.target(item, call("CAR", left[0]))
			left = left[1:]
		case Optional:
			isGiven := call("CONSP", left[0])
			b.optional(item, isGiven, call("CAR", left[0]))
			left = left[1:]
		case Key:
			pair := b.keep(b.pairOf(behind, item.Key))
			b.optional(item, call("CONSP", pair), call("CAR", call("CDR", pair)))
		case Rest:
			b.bind(item.Var, behind)
		case Whole:
			b.bind(item.Var, from)
		case Aux:
			b.bind(item.Var, item.Init)
		case Environment:
			b.bind(item.Var, forms.Nil())
		}
	}
}

// lefts binds fresh variables to what is left behind each required and optional parameter. It returns what is left ahead of each one, and behind the last one.
func (b *binder) lefts(l List, from api.Form) []api.Form {
	left := []api.Form{from}
	for _, item := range l.Items {
		last := left[len(left)-1]
		switch item.Kind {
		case Required:
			left = append(left, b.keep(call("IF", call("CONSP", last), call("CDR", last), bad())))
		case Optional:
			left = append(left, b.keep(call("IF", call("CONSP", last), call("CDR", last), last)))
		}
	}
	return left
}

// check looks whether what is left behind required and optional parameters fits.
func (b *binder) check(l List, from, behind api.Form) {
	isNil := func(f api.Form) api.Form { return call("IF", call("NULL", f), forms.Nil(), bad()) }
	required, _ := l.positional()
	switch {
	case l.Keys:
		b.checkKeys(l, behind)
	case !l.has(Rest):
		b.keep(isNil(behind))
	case required == 0:
		b.keep(call("IF", call("CONSP", from), forms.Nil(), isNil(from)))
	}
}

// checkKeys looks whether a list has pairs, and no keys but those that are allowed.
func (b *binder) checkKeys(l List, pairs api.Form) {
	b.keep(b.loop(pairs, func(at, again api.Form) api.Form {
		isEnd := call("IF", call("NULL", at), forms.Nil(), bad())
		return call("IF", call("CONSP", at), call("IF", call("CONSP", call("CDR", at)), again, bad()), isEnd)
	}))
	if l.Allow {
		return
	}
	keys := []api.Form{allowKey()}
	for _, item := range l.Items {
		if item.Kind == Key {
			keys = append(keys, item.Key)
		}
	}
	others := b.keep(b.pairOf(pairs, allowKey()))
	isAllowed := call("IF", call("CONSP", others), call("CAR", call("CDR", others)), forms.Nil())
	b.keep(call("IF", isAllowed, forms.Nil(), b.loop(pairs, func(at, again api.Form) api.Form {
		isKnown := call("MEMBER", call("CAR", at), quote(forms.List(keys)))
		return call("IF", call("CONSP", at), call("IF", isKnown, again, bad()), forms.Nil())
	})))
}

// loop returns a form that goes through a list of pairs: step tells, for the variable of the pairs that are left and a form that goes on with the next ones, what is done. Its value is what was left.
func (b *binder) loop(pairs api.Form, step func(at, again api.Form) api.Form) api.Form {
	at, tag := b.fresh(), b.fresh()
	again := call("PROGN", call("SETQ", at, call("CDR", call("CDR", at))), call("GO", tag))
	binding := forms.List([]api.Form{at, pairs})
	return call("LET", forms.List([]api.Form{binding}), call("TAGBODY", tag, step(at, again)), at)
}

// pairOf returns a form whose value is the list of pairs from a key on, or NIL.
func (b *binder) pairOf(pairs, key api.Form) api.Form {
	return b.loop(pairs, func(at, again api.Form) api.Form {
		isKey := call("EQ", call("CAR", at), quote(key))
		return call("IF", call("CONSP", at), call("IF", isKey, forms.Nil(), again), forms.Nil())
	})
}

// target binds a variable, or those of a pattern, to a value.
func (b *binder) target(item Item, value api.Form) {
	if item.Pattern == nil {
		b.bind(item.Var, value)
	} else {
		b.list(*item.Pattern, b.keep(value))
	}
}

// optional binds a parameter that may be missing.
func (b *binder) optional(item Item, isGiven, value api.Form) {
	b.target(item, call("IF", isGiven, value, item.Init))
	if isThere(item.Given) {
		b.bind(item.Given, isGiven)
	}
}
