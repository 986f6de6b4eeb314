package script

import (
	"slices"

	"demesne/api"
	"demesne/audit"
	"demesne/flat"
	"demesne/kernel"
)

// Found is what is wrong with a run: at which step, and what.
type Found struct {
	At  int
	Why api.Errno
}

// nowhere is the step of what isn't found at any.
const nowhere = -1

// trial is a kernel, and the model that says what it should tell.
type trial struct {
	kernel *kernel.Kernel
	model  *flat.Model
}

// Judge: is a run of a script on a machine that of the flat model, each frame for one thing, and no line stale, behind each step? The first step at which it isn't; -1: it is, throughout.
func Judge(p kernel.Plan, steps []Step) Found {
	k, e := kernel.Boot(p)
	if e != api.OK {
		return Found{At: nowhere, Why: e}
	}
	return trial{kernel: k, model: modelOf(k, p.Quantum)}.over(steps)
}

// modelOf: a model of as many frames and kernel's tables as a kernel has that was just booted: then its machine has a space, so that audit tells all of them.
func modelOf(k *kernel.Kernel, quantum int) *flat.Model {
	n := audit.Count(audit.Frames(k.Machine()))
	usable := n[audit.Free] + n[audit.Kernel] + n[audit.Table] + n[audit.Data]
	m, e := flat.Boot(usable, n[audit.Kernel], quantum)
	if e != api.OK {
		return &flat.Model{} // it tells otherwise than a kernel, at any step
	}
	return m
}

// over: the first step at which something is wrong.
func (t trial) over(steps []Step) Found {
	for i, s := range steps {
		if why := t.wrong(s); why != api.OK {
			return Found{At: i, Why: why}
		}
	}
	return Found{At: nowhere}
}

// wrong: both take a step; what is wrong behind it?
func (t trial) wrong(s Step) api.Errno {
	if !t.alike(s) {
		return api.ErrForm
	}
	m := t.kernel.Machine()
	if e := audit.Check(m); e != api.OK {
		return e
	}
	if len(m.Stale()) > 0 {
		return api.ErrOver
	}
	return api.OK
}

// alike: both take a step; do they tell the same of it, and do the same processes wait behind it?
func (t trial) alike(s Step) bool {
	return t.sameAnswer(s) && slices.Equal(t.kernel.Line(), t.model.Line())
}

// sameAnswer: of a call what the process is told, of a tick whether the turn is over.
func (t trial) sameAnswer(s Step) bool {
	if !s.Tick {
		return t.kernel.Do(s.W) == t.model.Do(s.W)
	}
	over, e := t.kernel.Tick()
	want, f := t.model.Tick()
	return over == want && e == f
}
