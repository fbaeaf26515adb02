package save

// sealBytes: two sums of four bytes each.
const sealBytes = 8

// Sums: the check sums of the bytes.
func Sums(b []byte) (first, second int) {
	// Both are modulo 2^32: there these numbers wrap round.
	var one, two uint32
	for _, c := range b {
		one += uint32(c)
		two += one
	}
	return int(one), int(two)
}

// seal: the bytes that stand behind a body in its image.
func seal(body []byte) []byte {
	first, second := Sums(body)
	var b []byte
	for _, sum := range [2]int{first, second} {
		b = append(b, byte(sum>>24), byte(sum>>16), byte(sum>>8), byte(sum))
	}
	return b
}
