// Package twin is layer 1: numbers from 0 to 65535 as two bytes, the higher one first.
// See shared/doc/01-twin.md.
package twin

const (
	size = 2     // bytes of a number
	most = 65535 // the greatest number that they hold
)

// Put answers the two bytes of n, and true; empty and false, unless n is from 0 to 65535.
func Put(n int) (string, bool) {
	return PutAll([]int{n})
}

// Get answers the number whose bytes stand in s from the place at on, and true; 0 and false, if they aren't there.
func Get(s string, at int) (int, bool) {
	// Not at+size > len(s): at may be the greatest int, and the sum would go round.
	if at < 0 || at > len(s)-size {
		return 0, false
	}
	return number(s, at), true
}

// PutAll answers the bytes of all numbers of l, and true; empty and false, unless each is from 0 to 65535.
func PutAll(l []int) (string, bool) {
	b := make([]byte, 0, size*len(l))
	for _, n := range l {
		if n < 0 || n > most {
			return "", false
		}
		b = append(b, byte(n>>8), byte(n))
	}
	return string(b), true
}

// GetAll answers the numbers of all bytes of s, and true; none and false, if there is an odd number of bytes.
func GetAll(s string) ([]int, bool) {
	if len(s)%size != 0 {
		return nil, false
	}
	l := make([]int, 0, len(s)/size)
	for at := 0; at < len(s); at += size {
		l = append(l, number(s, at))
	}
	return l, true
}

// number is asked only where both bytes stand in s.
func number(s string, at int) int {
	return int(s[at])<<8 | int(s[at+1])
}
