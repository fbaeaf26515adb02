package goods

import "barrow/api"

// maxPattern is how many bytes a pattern may have.
const maxPattern = 48

// Match: does the SKU meet the pattern?
func Match(pattern, sku string) (bool, api.Errno) {
	if len(pattern) > maxPattern {
		return false, api.ErrLong
	}
	for i := range len(pattern) {
		if !isPatternByte(pattern[i]) {
			return false, api.ErrByte
		}
	}
	if !Good(sku) {
		return false, api.ErrSku
	}
	return meets(pattern, sku), api.OK
}

func isPatternByte(b byte) bool {
	switch b {
	case '*', '?', '#', '@':
		return true
	}
	return isLetter(b) || isDigit(b) || isMark(b)
}

// meets keeps every place up to which the pattern's bytes so far may have cut the SKU: trying the cuts one by one would take too long with many stars.
func meets(pattern, sku string) bool {
	var reach [api.MaxSku + 1]bool
	reach[0] = true
	for i := range len(pattern) {
		reach = step(reach, pattern[i], sku)
	}
	return reach[len(sku)]
}

func step(reach [api.MaxSku + 1]bool, b byte, sku string) [api.MaxSku + 1]bool {
	var next [api.MaxSku + 1]bool
	if b == '*' {
		next[0] = reach[0]
	}
	for i := range len(sku) {
		if b == '*' {
			next[i+1] = next[i] || reach[i+1]
		} else {
			next[i+1] = reach[i] && fits(b, sku[i])
		}
	}
	return next
}

func fits(b, piece byte) bool {
	switch b {
	case '?':
		return true
	case '#':
		return isDigit(piece)
	case '@':
		return isLetter(piece)
	}
	return b == piece
}
