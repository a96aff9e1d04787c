package real

import (
	"strconv"

	"flume/api"
)

// Text is the shortest decimal text that leads back to x; nan, inf, -inf, 0
// and -0 for what has no digits.
func Text(x float64) string {
	switch Class(x) {
	case classNaN:
		return "nan"
	case classInf:
		return "inf"
	case classNegInf:
		return "-inf"
	}
	return strconv.FormatFloat(x, 'g', -1, 64)
}

// Read is the number whose Text is s; ErrNumber, if there is none.
func Read(s string) (float64, api.Errno) {
	x, err := strconv.ParseFloat(s, 64)
	// Many texts lead to a number, and only one of them is its own.
	if err != nil || Text(x) != s {
		return 0, api.ErrNumber
	}
	return Canon(x), api.OK
}
