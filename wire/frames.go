package wire

import (
	"math"

	"barrow/api"
)

// Join: frames one behind the other.
func Join(list [][]byte) []byte {
	var out []byte
	for _, frame := range list {
		out = appendFrame(out, frame)
	}
	return out
}

// Split: the frames that stand one behind the other.
func Split(b []byte) ([][]byte, api.Errno) {
	var list [][]byte
	err := Read(b, func(r *Reader) {
		for r.Left() > 0 {
			list = append(list, r.Frame(math.MaxInt))
		}
	})
	if err != api.OK {
		return nil, err
	}
	return list, api.OK
}
