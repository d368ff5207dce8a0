package align

import (
	"errors"
	"strconv"

	"helix/api"
)

// wrong is what a layer below found wrong, and where in the source (0, where no source was looked at).
type wrong struct {
	code api.Errno
	at   int
}

// Error tells it in words.
func (w wrong) Error() string { return w.code.Error() + " at " + strconv.Itoa(w.at) }

// placed hands on what a layer tells of a source, its fault as an error.
func placed[T any](told T, f api.Fault) (T, error) {
	if f.Code != api.OK {
		var nothing T
		return nothing, wrong{code: f.Code, at: f.At}
	}
	return told, nil
}

// unplaced hands on what a layer tells that knows no source, the number of its error as an error.
func unplaced[T any](told T, e api.Errno) (T, error) {
	return placed(told, api.Fault{Code: e})
}

// faultOf tells what is wrong as the package's calls do; of no error it is no fault.
func faultOf(err error) api.Fault {
	var w wrong
	if errors.As(err, &w) {
		return api.Fault{Code: w.code, At: w.at}
	}
	return api.Fault{}
}
