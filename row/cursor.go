// Package row: rows of bytes, read or written from the first byte on.
package row

// Cursor knows where in a row one is. What reads and what writes embed it, so
// that a place means the same to both.
type Cursor struct{ at int }

// At is the number of the next byte, from 0 on.
func (c *Cursor) At() int { return c.at }

// Step goes on by so many bytes.
func (c *Cursor) Step(bytes int) { c.at += bytes }
