package zone

import (
	"strconv"
	"strings"
)

// Text is the steps in words; an empty one tells that l isn't Right.
func Text(l Zone) string {
	if !Right(l) {
		return ""
	}
	var words []string
	for _, s := range l {
		words = append(words, stepText(s))
	}
	return strings.Join(words, ",")
}

func stepText(s Step) string {
	if s.Op != Disc && s.Op != Half {
		return name(s.Op)
	}
	return name(s.Op) + " " + digits(real(s.At)) + " " + digits(imag(s.At)) + " " + digits(s.Size)
}

// digits goes by an int: a float's own digits would tell -0 from 0.
func digits(x float64) string { return strconv.Itoa(int(x)) }

func name(op int) string {
	switch op {
	case All:
		return "all"
	case Disc:
		return "disc"
	case Half:
		return "half"
	case Not:
		return "not"
	case And:
		return "and"
	}
	return "or"
}

// Parse is the zone that has that text.
func Parse(s string) (Zone, bool) {
	var l Zone
	for _, words := range strings.Split(s, ",") {
		l = append(l, parseStep(strings.Split(words, " ")))
	}
	if !Right(l) {
		return nil, false
	}
	return l, true
}

// parseStep is the step that has those words; of others it is the zero one, which no Right zone has.
func parseStep(words []string) Step {
	op := opOf(words[0])
	switch {
	case (op == Disc || op == Half) && len(words) == 4:
		return parseNumbers(op, words[1:])
	case op != Disc && op != Half && len(words) == 1:
		return Step{Op: op}
	}
	return Step{}
}

// opOf is the Op of that name; 0 tells that it is none's.
func opOf(word string) int {
	for op := All; op <= Or; op++ {
		if name(op) == word {
			return op
		}
	}
	return 0
}

func parseNumbers(op int, words []string) Step {
	x, okX := parseNumber(words[0])
	y, okY := parseNumber(words[1])
	size, okSize := parseNumber(words[2])
	if !okX || !okY || !okSize {
		return Step{}
	}
	return Step{Op: op, At: complex(x, y), Size: size}
}

// parseNumber takes a number's one text alone: no noughts ahead, no +, no -0.
func parseNumber(word string) (float64, bool) {
	n, err := strconv.Atoi(word)
	return float64(n), err == nil && strconv.Itoa(n) == word
}
