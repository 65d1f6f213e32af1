package history

import (
	"slices"

	"clockwork/api"
	"clockwork/event"
)

// inRange reports whether a batch may belong to some history.
func inRange(b api.Batch) bool {
	if b.At > api.MaxTick || len(b.Events) == 0 {
		return false
	}
	for _, e := range b.Events {
		if !event.Valid(e) {
			return false
		}
	}
	return true
}

// follows reports whether a batch may come behind the others, as far as its tick and the kinds of its events tell.
func (h *History) follows(b api.Batch) bool {
	for i, e := range b.Events {
		if event.Outside(e.Kind) != (i == 0) {
			return false
		}
	}
	starts := b.Events[0].Kind == api.Started
	return b.At >= h.At() && starts == (len(h.batches) == 0)
}

// possible reports whether the events of a batch are possible, the first of which is from outside, and no other one.
func (h *History) possible(b api.Batch) bool {
	last := len(b.Events) - 1
	// Commands depend on nothing that the event from outside in front of them changes, so that all events can be checked
	// before the first one changes the history.
	return !slices.ContainsFunc(b.Events[:last], ends) &&
		h.accepts(b.Events[0], b.At) &&
		numbered(b.Events[1:], b.At, h.next)
}

// ends reports whether there is no further event in a batch behind e.
func ends(e api.Event) bool {
	return e.Kind == api.Dispatched || retries(e) || event.Closes(e.Kind)
}

// retries reports whether the task of e goes on with another attempt.
func retries(e api.Event) bool { return e.Kind == api.Broken && e.At != 0 }

// accepts reports whether an event from outside may happen at a tick.
func (h *History) accepts(e api.Event, at uint64) bool {
	switch e.Kind {
	case api.Dispatched:
		task, ok := h.tasks[e.ID]
		return ok && !task.Flying && task.N == e.N-1 && task.At <= at && at <= e.At
	case api.Broken:
		if retries(e) && e.At < at {
			return false
		}
		fallthrough
	case api.Finished:
		task, ok := h.tasks[e.ID]
		return ok && task.Flying && task.N == e.N
	case api.Fired:
		timer, ok := h.timers[e.ID]
		return ok && timer.At <= at
	case api.Signal:
		return !h.Has(e.Text)
	}
	return true
}

// numbered reports whether commands of a batch have the numbers from next on, and arm no timer for a tick in the past.
func numbered(commands []api.Event, at, next uint64) bool {
	for _, e := range commands {
		switch e.Kind {
		case api.Armed:
			if e.At < at {
				return false
			}
			fallthrough
		case api.Scheduled:
			if e.ID != next {
				return false
			}
			next++
		}
	}
	return true
}
