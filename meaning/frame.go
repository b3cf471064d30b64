package meaning

import (
	"commonform/api"
	"commonform/heap"
	"commonform/lib"
)

// A frame is what is still to be done with values.
type frame interface {
	isFrame()
}

// waiting is a part of all frames.
type waiting struct{}

func (waiting) isFrame() {}

type (
	// gathering has the first values of kids.
	gathering struct {
		waiting
		node  *node
		env   environment
		words []heap.Word
	}
	// sequence goes on with the next kid; kept are the values of the first one, if they count.
	sequence struct {
		waiting
		node  *node
		env   environment
		next  int
		keeps bool
		kept  []heap.Word
	}
	// parameters binds arguments to the parameters of a closure; one that is missing gets the value of its init.
	parameters struct {
		waiting
		lambda *node
		args   []heap.Word
		env    environment
		next   int // the next parameter
		inits  int // how many have been passed that have an init
	}
	// spreading has the function and the arguments of a call, to which all values come.
	spreading struct {
		waiting
		node  *node
		env   environment
		words []heap.Word
		next  int
	}
	// returning ends a block with the values.
	returning struct {
		waiting
		node *node
		env  environment
	}
	// throwing ends a catch with the values.
	throwing struct {
		waiting
		tag heap.Word
	}
	// faulting waits for the function that may leave with a fault.
	faulting struct {
		waiting
		fault lib.Fault
	}
	// block and catch hand on the values, as exits to them do.
	block struct {
		waiting
		id int64
	}
	catch struct {
		waiting
		tag heap.Word
	}
	// tagbody goes on with the next segment.
	tagbody struct {
		waiting
		node *node
		env  environment
		id   int64
		next int
	}
	// protect begins its cleanup, however its form ends.
	protect struct {
		waiting
		node *node
		env  environment
	}
	// cleanup drops the values, and goes on as the form had ended: with values, or with an exit.
	cleanup struct {
		waiting
		values []heap.Word
		exit   *exit
	}
	// bound gives symbols back what they had.
	bound struct {
		waiting
		symbols, old []heap.Word
	}
)

func (r *run) push(f frame) {
	if len(r.frames) >= api.MaxLive {
		stopLimit(api.ErrDepth)
	}
	r.frames = append(r.frames, f)
}

// pop takes the innermost frame away.
func (r *run) pop() frame {
	last := len(r.frames) - 1
	f := r.frames[last]
	r.frames = r.frames[:last]
	return f
}
