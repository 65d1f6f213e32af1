package history

import "clockwork/api"

// apply changes the history by a possible event of a batch.
func (h *History) apply(e api.Event, at uint64) {
	switch e.Kind {
	case api.Dispatched:
		h.move(e, true)
	case api.Broken:
		if retries(e) {
			h.move(e, false)
			break
		}
		fallthrough
	case api.Finished:
		delete(h.tasks, e.ID)
	case api.Fired:
		delete(h.timers, e.ID)
	case api.Signal:
		if e.Text != "" {
			h.keys[e.Text] = true
		}
	case api.Scheduled:
		h.tasks[e.ID] = Task{ID: e.ID, Name: e.Name, Value: e.Value, At: at}
		h.next++
	case api.Armed:
		h.timers[e.ID] = Timer{ID: e.ID, At: e.At}
		h.next++
	case api.Completed, api.Failed, api.Panicked:
		clear(h.tasks)
		clear(h.timers)
	}
}

// move gives a task the attempt and the tick of its event.
func (h *History) move(e api.Event, flying bool) {
	task := h.tasks[e.ID]
	task.N, task.Flying, task.At = e.N, flying, e.At
	h.tasks[e.ID] = task
}
