package describe

import (
	"strconv"

	"sluice/api"
)

// Refusal is the error of a text that is no description.
type Refusal struct {
	Errno api.Errno
	At    int
}

// Error makes a Refusal an error.
func (r *Refusal) Error() string {
	return "no description: error " + strconv.Itoa(int(r.Errno)) + " at byte " + strconv.Itoa(r.At)
}
