package route

import "syllabary/api"

// modesFit reports whether s has modes, not too many, and rules between them only. The functions that follow rules rely on it, so they ask for it even though their results are unspecified for schemes that are not valid.
func modesFit(s api.Scheme) bool {
	if s.Modes < 1 || s.Modes > api.MaxModes {
		return false
	}
	for _, r := range s.Rules {
		if !isMode(s, r.From) || !isMode(s, r.To) {
			return false
		}
	}
	return true
}

func isMode(s api.Scheme, mode int) bool {
	return 0 <= mode && mode < s.Modes
}

func accepting(s api.Scheme, mode int) bool {
	return s.Accept>>mode&1 == 1
}

// anyAccepting reports whether one of the modes that are reached is accepting.
func anyAccepting(s api.Scheme, reached []bool) bool {
	for mode, is := range reached {
		if is && accepting(s, mode) {
			return true
		}
	}
	return false
}

// leaving returns the indices of the rules from each mode.
func leaving(s api.Scheme) map[int][]int {
	rules := map[int][]int{}
	for i, r := range s.Rules {
		rules[r.From] = append(rules[r.From], i)
	}
	return rules
}

// reachedFrom returns, for each mode, whether rules lead to it from start.
func reachedFrom(s api.Scheme, rules map[int][]int, start int) []bool {
	reached := make([]bool, s.Modes)
	enter := func(mode int) bool {
		isNew := !reached[mode]
		reached[mode] = true
		return isNew
	}
	follow(s, rules, start, enter)
	return reached
}

// follow enters the mode and all modes that rules lead to from it. It goes on from those only of which enter reports that they are new.
func follow(s api.Scheme, rules map[int][]int, mode int, enter func(int) bool) {
	if !enter(mode) {
		return
	}
	for _, i := range rules[mode] {
		follow(s, rules, s.Rules[i].To, enter)
	}
}
