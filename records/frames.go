package records

import (
	"parcel/api"
	"parcel/sums"
)

// mark is what a frame begins with: the bytes 245 and 95.
const mark = "\xf5\x5f"

// Frame is the frame of a record of 1 to 255 bytes. No record of a sound
// replica has more than 82, so none of them is too long for it.
func Frame(record string) string {
	length := oneByte(len(record))
	body := length + record
	sum := sums.Sum(body)
	end := sums.FourBytes(sum)
	return mark + body + end
}

// FrameAt is what the frame at a place says, and how many bytes the frame has;
// none, if no frame stands there.
func FrameAt(b string, at int) (api.Found, int) {
	if at < 0 || len(b)-at <= len(mark) {
		return api.Found{}, 0
	}
	body := at + len(mark)
	if b[at:body] != mark {
		return api.Found{}, 0
	}
	end := body + 1 + int(b[body])
	if len(b)-end < 4 {
		return api.Found{}, 0
	}
	// The sum is asked last: it takes the longest, and most marks that stand
	// somewhere by chance have no record behind them.
	found, ok := foundIn(b[body+1 : end])
	if !ok {
		return api.Found{}, 0
	}
	sum := sums.Sum(b[body:end])
	if sums.FromFourBytes(b[end:end+4]) != sum {
		return api.Found{}, 0
	}
	found.At = at
	return found, end + 4 - at
}
