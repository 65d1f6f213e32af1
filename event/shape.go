package event

import "clockwork/api"

// shape is what all events of a kind have in common.
type shape struct {
	name   string
	fields []int // that they have beside Kind, in ascending order
}

// shapeOf returns the shape of a kind, or one without a name and fields if there is no such kind.
func shapeOf(kind int) shape {
	switch kind {
	case api.Started:
		return shape{"started", []int{fieldName, fieldValue}}
	case api.Dispatched:
		return shape{"dispatched", []int{fieldID, fieldN, fieldAt}}
	case api.Finished:
		return shape{"finished", []int{fieldID, fieldN, fieldValue}}
	case api.Broken:
		return shape{"broken", []int{fieldID, fieldN, fieldAt, fieldText}}
	case api.Fired:
		return shape{"fired", []int{fieldID}}
	case api.Signal:
		return shape{"signal", []int{fieldName, fieldText, fieldValue}}
	case api.Scheduled:
		return shape{"scheduled", []int{fieldID, fieldName, fieldValue}}
	case api.Armed:
		return shape{"armed", []int{fieldID, fieldAt}}
	case api.Completed:
		return shape{"completed", []int{fieldValue}}
	case api.Failed:
		return shape{"failed", []int{fieldText}}
	case api.Panicked:
		return shape{"panicked", []int{fieldText}}
	}
	return shape{}
}
