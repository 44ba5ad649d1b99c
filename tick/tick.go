// Package tick is layer 1: saturating tick arithmetic. See shared/doc/01-tick.md.
package tick

import "ginnel/api"

// Add returns a + b. It stops at MaxTick because a sum that wrapped round would turn a distant deadline into a past one.
func Add(a, b uint64) uint64 {
	if b > api.MaxTick-a {
		return api.MaxTick
	}
	return a + b
}

// Sub returns a - b. It stops at 0 because a difference that wrapped round would turn an elapsed span into a huge one.
func Sub(a, b uint64) uint64 {
	if b > a {
		return 0
	}
	return a - b
}

// Min returns the smallest element of l. An empty list yields MaxTick, so that having no limit means never being due.
func Min(l ...uint64) uint64 {
	least := api.MaxTick
	for _, t := range l {
		if t < least {
			least = t
		}
	}
	return least
}

// Deadline returns the tick that lies span after now, or the earliest of the limits if that comes first.
func Deadline(now, span uint64, limits ...uint64) uint64 {
	return Min(Add(now, span), Min(limits...))
}

// Window returns the number of the window of the given width that contains now. Without a width, all ticks share window 0.
func Window(now, width uint64) uint64 {
	if width == 0 {
		return 0
	}
	return now / width
}
