package program

// nowhere is the place of what is not there.
const nowhere = -1

// readThreads answers all threads of a text, or the place of its first wrong byte.
func readThreads(text string) ([][]Step, int) {
	threads := [][]Step{}
	thread := []Step{}
	at := 0
	for at < len(text) {
		if text[at] == ';' {
			threads = append(threads, thread)
			thread = []Step{}
			at++
			continue
		}
		step, next, ok := readStep(text, at)
		if !ok {
			return nil, next
		}
		thread = append(thread, step)
		at = next
	}
	threads = append(threads, thread)
	return threads, nowhere
}

// readStep answers the step at a place, the place behind it, and true; or the place of the first wrong byte, and false.
func readStep(text string, at int) (Step, int, bool) {
	b := byteAt(text, at)
	switch {
	case b == '.':
		return Step{Kind: Nothing}, at + 1, true
	case 'a' <= b && b <= 'f':
		return readNamed(text, at, Take, 'a', 'f')
	case 'A' <= b && b <= 'F':
		return readNamed(text, at, Give, 'A', 'F')
	case b == '!':
		return readNamed(text, at+1, Set, 'u', 'z')
	case b == '~':
		return readNamed(text, at+1, Clear, 'u', 'z')
	case b == '?':
		return readSkip(text, at+1)
	case b == '>':
		return readNamed(text, at+1, Start, '0', '9')
	case b == '<':
		return readNamed(text, at+1, Join, '0', '9')
	}
	return Step{}, at, false
}

// readNamed reads the byte that names a step's lock, flag or thread: one of first to last.
func readNamed(text string, at int, kind int, first byte, last byte) (Step, int, bool) {
	b := byteAt(text, at)
	if b < first || b > last {
		return Step{}, at, false
	}
	return Step{Kind: kind, Which: int(b - first)}, at + 1, true
}

func readSkip(text string, at int) (Step, int, bool) {
	step, next, ok := readNamed(text, at, Skip, 'u', 'z')
	if !ok {
		return Step{}, next, false
	}
	digit := byteAt(text, next)
	if digit < '1' || digit > '9' {
		return Step{}, next, false
	}
	step.Count = int(digit - '0')
	return step, next + 1, true
}

// byteAt answers 0 behind the end. A byte 0 can stand nowhere, so a text that ends too early is wrong at its length, without a case of its own.
func byteAt(text string, at int) byte {
	if at < 0 || at >= len(text) {
		return 0
	}
	return text[at]
}
