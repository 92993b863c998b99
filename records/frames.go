package records

import "parcel/sums"

// mark is what a frame begins with: the bytes 245 and 95.
const mark = "\xf5\x5f"

// Frame is the frame of a record of 1 to 255 bytes. No record of a sound
// replica has more than 82, so none of them is too long for it.
func Frame(record string) string {
	length := oneByte(len(record))
	body := length + record
	sum := sums.Sum(body)
	end := FourBytes(sum)
	return mark + body + end
}
