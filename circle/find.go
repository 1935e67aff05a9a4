package circle

import "embrace/api"

// chain is a row of asks, by their numbers, that may become a circle. It is a plain value: what is tried behind it leaves it as it is.
type chain struct {
	asks   [api.MaxThreads]int
	length int
}

// finder gathers circles, and stops at the first one that is too many.
type finder struct {
	asks    []api.Ask
	most    int
	circles []chain
	more    bool
}

// find answers the first most circles, the short ones first, and whether there are more. No circle is longer than there can be threads.
func find(asks []api.Ask, most int) ([]chain, bool) {
	f := finder{asks: asks, most: most}
	for length := 2; length <= api.MaxThreads; length++ {
		f.extend(chain{}, length)
	}
	return f.circles, f.more
}

// extend tries the asks by their numbers, so that the circles of one length come in their order.
func (f *finder) extend(c chain, length int) {
	if c.length >= length {
		f.keep(c)
		return
	}
	for k := 0; k < len(f.asks) && !f.more; k++ {
		if f.fits(c, k) {
			longer := c
			longer.asks[c.length] = k
			longer.length++
			f.extend(longer, length)
		}
	}
}

// fits tells whether ask k may stand next. A thread below the first one's never may, and so each circle comes once.
func (f *finder) fits(c chain, k int) bool {
	if c.length == 0 {
		return true
	}
	ask := f.asks[k]
	if ask.Thread < f.asks[c.asks[0]].Thread {
		return false
	}
	for i := 0; i < c.length; i++ {
		other := f.asks[c.asks[i]]
		if other.Thread == ask.Thread || other.Lock == ask.Lock {
			return false
		}
	}
	return f.leads(c, ask)
}

// leads tells whether the lock that the last ask of a chain is for stands in an ask's Holds.
func (f *finder) leads(c chain, to api.Ask) bool {
	last := f.asks[c.asks[c.length-1]]
	return share(last.Lock, to.Holds)
}

func (f *finder) keep(c chain) {
	first := f.asks[c.asks[0]]
	if !f.leads(c, first) {
		return
	}
	if len(f.circles) >= f.most {
		f.more = true
		return
	}
	f.circles = append(f.circles, c)
}

// share tells whether some lock stands in both of two texts.
func share(locks string, others string) bool {
	for i := 0; i < len(locks); i++ {
		for k := 0; k < len(others); k++ {
			if locks[i] == others[k] {
				return true
			}
		}
	}
	return false
}
