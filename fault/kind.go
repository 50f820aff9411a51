package fault

// The kinds of gates.
const (
	andKind  = "and"
	orKind   = "or"
	voteKind = "vote"
)

// kind is what gates of a kind have in common.
type kind struct {
	fits  func(g Gate) bool // whether the need of a gate is as it has to be
	least func(g Gate) int  // how many inputs of a gate fail at least if it fails
	dual  func(g Gate) Gate // the gate of the dual tree, which has the inputs of this one
}

// kinds returns the kinds by their names.
func kinds() map[string]kind {
	return map[string]kind{
		andKind: {
			fits:  needsNothing,
			least: func(g Gate) int { return len(g.Inputs) },
			dual:  func(g Gate) Gate { return Gate{Kind: orKind, Inputs: g.Inputs} },
		},
		orKind: {
			fits:  needsNothing,
			least: func(Gate) int { return 1 },
			dual:  func(g Gate) Gate { return Gate{Kind: andKind, Inputs: g.Inputs} },
		},
		voteKind: {
			fits:  func(g Gate) bool { return 1 <= g.Need && g.Need <= len(g.Inputs) },
			least: func(g Gate) int { return g.Need },
			dual:  func(g Gate) Gate { return Gate{Kind: voteKind, Need: len(g.Inputs) + 1 - g.Need, Inputs: g.Inputs} },
		},
	}
}

func needsNothing(g Gate) bool {
	return g.Need == 0
}
