package reverse

import (
	"strings"

	"syllabary/api"
)

// stand is where a direct route stands: its mode, how many bytes of the text it has put out, and the modes (a bit for each) where it has been since the last one of them. It must not come to these again before it puts out more.
type stand struct {
	mode, put int
	been      uint8
}

// start is where the empty route stands.
func start() stand {
	return stand{been: 1}
}

// after returns where a direct route stands after one more rule, and whether it may go on with this rule.
func (at stand) after(r api.Rule, out string) (stand, bool) {
	if r.From != at.mode || !strings.HasPrefix(out[at.put:], r.Out) {
		return stand{}, false
	}
	next := stand{mode: r.To, put: at.put + len(r.Out), been: 1 << r.To}
	if r.Out != "" {
		return next, true
	}
	if at.been&next.been != 0 {
		return stand{}, false
	}
	next.been |= at.been
	return next, true
}
