package unit

import (
	"strconv"

	"emend/api"
)

// fault is what is wrong deep within files, with its place: an error's number alone could not tell, on its way out of them, in which one it was met.
type fault struct{ api.Fault }

func (f fault) Error() string {
	return f.E.Error() + " at line " + strconv.Itoa(f.Line) + " of file " + strconv.Itoa(f.File)
}

func (f fault) Unwrap() error {
	return f.E
}
