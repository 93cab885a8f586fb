package event

import (
	"strconv"
	"strings"

	"syllabary/api"
)

// No number of a valid event has more digits than api.MaxSide.
const mostDigits = 4

// What the functions here write and read is the rest of a line after the name: each field with the space before it.
// Those that read leave it to the form of the kind whether the fields are as they must be.

func writeNothing(e api.Event) string { return "" }

func readNothing(rest string) (api.Event, bool) { return api.Event{}, rest == "" }

func writeKeys(e api.Event) string { return " " + e.Keys }

func readKeys(rest string) (api.Event, bool) {
	keys, ok := strings.CutPrefix(rest, " ")
	return api.Event{Keys: keys}, ok
}

func writeText(e api.Event) string { return " " + e.Text }

func readText(rest string) (api.Event, bool) {
	text, ok := strings.CutPrefix(rest, " ")
	return api.Event{Text: text}, ok
}

func writePoints(e api.Event) string {
	var numbers []int
	for _, p := range e.P {
		numbers = append(numbers, p.X, p.Y)
	}
	return writeNumbers(numbers)
}

func readPoints(rest string) (api.Event, bool) {
	numbers, ok := readNumbers(rest, 2*api.MaxPoints)
	if !ok || len(numbers)%2 != 0 {
		return api.Event{}, false
	}
	var e api.Event
	for i := 0; i < len(numbers); i += 2 {
		e.P = append(e.P, api.Point{X: numbers[i], Y: numbers[i+1]})
	}
	return e, true
}

func writeHold(e api.Event) string { return writeNumbers([]int{e.N, e.L}) }

func readHold(rest string) (api.Event, bool) {
	numbers, ok := readNumbers(rest, 2)
	if !ok || len(numbers) != 2 {
		return api.Event{}, false
	}
	return api.Event{N: numbers[0], L: numbers[1]}, true
}

func writeChoose(e api.Event) string { return writeNumbers([]int{e.N}) }

func readChoose(rest string) (api.Event, bool) {
	numbers, ok := readNumbers(rest, 1)
	if !ok || len(numbers) != 1 {
		return api.Event{}, false
	}
	return api.Event{N: numbers[0]}, true
}

func writeNumbers(numbers []int) string {
	rest := ""
	for _, n := range numbers {
		rest += " " + strconv.Itoa(n)
	}
	return rest
}

// readNumbers stops after most numbers, so that a long line is refused without reading all of it.
func readNumbers(rest string, most int) ([]int, bool) {
	var numbers []int
	for rest != "" {
		n, after, ok := readNumber(rest)
		if !ok || len(numbers) == most {
			return nil, false
		}
		numbers = append(numbers, n)
		rest = after
	}
	return numbers, true
}

// readNumber reads a space and a number. A digit too many is left in after, where it is refused for want of a space.
func readNumber(rest string) (n int, after string, ok bool) {
	digits, ok := strings.CutPrefix(rest, " ")
	if !ok {
		return 0, "", false
	}
	size := 0
	for size < len(digits) && size < mostDigits && '0' <= digits[size] && digits[size] <= '9' {
		n = 10*n + int(digits[size]-'0')
		size++
	}
	if size == 0 || size > 1 && digits[0] == '0' {
		return 0, "", false
	}
	return n, digits[size:], true
}
