package irregular

import (
	"cmp"

	"raddle/api"
)

// maxKey is the greatest number of bytes of a key.
const maxKey = 100

// Keys is an associative domain: keys, ascending.
type Keys []string

// CheckKeys returns the error of an associative domain.
func CheckKeys(k Keys) api.Errno {
	if len(k) > api.MaxElements {
		return api.ErrCount
	}
	for i, key := range k {
		if len(key) > maxKey {
			return api.ErrLarge
		}
		if i > 0 && key <= k[i-1] {
			return ErrOrder
		}
	}
	return api.OK
}

// Add returns an associative domain with a key, and whether it is new.
func Add(k Keys, key string) (Keys, bool, api.Errno) {
	return change(k, key, func(has, named bool) bool { return has || named })
}

// Remove returns an associative domain without a key, and whether it was there.
func Remove(k Keys, key string) (Keys, bool, api.Errno) {
	return change(k, key, func(has, named bool) bool { return has && !named })
}

// change returns those of the keys that an associative domain has, and of the one that is named, which a closure keeps, and whether this changes the domain.
func change(k Keys, key string, keep func(has, named bool) bool) (Keys, bool, api.Errno) {
	// A key that is too long is the error of the domain of this key alone.
	l, e := combineKeys(k, Keys{key}, keep)
	return l, e == api.OK && len(l) != len(k), e
}

// Join returns the keys of both.
func Join(a, b Keys) (Keys, api.Errno) {
	return combineKeys(a, b, func(first, second bool) bool { return first || second })
}

// Meet returns the keys that both have.
func Meet(a, b Keys) (Keys, api.Errno) {
	return combineKeys(a, b, func(first, second bool) bool { return first && second })
}

// Less returns the keys of the first that the second does not have.
func Less(a, b Keys) (Keys, api.Errno) {
	return combineKeys(a, b, func(first, second bool) bool { return first && !second })
}

// Odd returns the keys that just one has.
func Odd(a, b Keys) (Keys, api.Errno) {
	return combineKeys(a, b, func(first, second bool) bool { return first != second })
}

// combineKeys returns the keys of two associative domains that a closure keeps.
func combineKeys(a, b Keys, keep func(first, second bool) bool) (Keys, api.Errno) {
	if e := CheckKeys(a); e != api.OK {
		return nil, e
	}
	if e := CheckKeys(b); e != api.OK {
		return nil, e
	}
	l := merge(a, b, keep)
	if len(l) > api.MaxElements {
		return nil, api.ErrCount
	}
	return l, api.OK
}

// merge returns, ascending, the elements of two ascending lists that a closure keeps, which is told for each one which of the lists have it.
func merge[T cmp.Ordered](a, b []T, keep func(first, second bool) bool) []T {
	var l []T
	for len(a) > 0 || len(b) > 0 {
		first := len(b) == 0 || len(a) > 0 && a[0] <= b[0]
		second := len(a) == 0 || len(b) > 0 && b[0] <= a[0]
		var x T
		if first {
			x, a = a[0], a[1:]
		}
		if second {
			x, b = b[0], b[1:]
		}
		if keep(first, second) {
			l = append(l, x)
		}
	}
	return l
}
