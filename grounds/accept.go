package grounds

import "freight/api"

// Accept tells whether an answer is seen to be right (P5).
func Accept(n api.Net, a api.Answer) (bool, api.Errno) {
	errno, _ := Check(n)
	if errno != api.OK {
		return false, errno
	}
	switch a.Kind {
	case api.Best:
		return acceptBest(n, a), api.OK
	case api.None:
		return acceptNone(n, a), api.OK
	case api.Endless:
		return acceptEndless(n, a), api.OK
	}
	return false, api.OK
}

// acceptBest is P6.
func acceptBest(n api.Net, a api.Answer) bool {
	if len(a.Cut) != 0 || len(a.Circle) != 0 {
		return false
	}
	if flowError(n, a.Flow) != api.OK {
		return false
	}
	if costOf(n, a.Flow) != a.Cost {
		return false
	}
	if !arePotentials(len(n.Supply), a.Potentials) {
		return false
	}
	return hold(n, a.Potentials, a.Flow)
}

// acceptNone is P7.
func acceptNone(n api.Net, a api.Answer) bool {
	if a.Cost != 0 || len(a.Flow) != 0 || len(a.Potentials) != 0 || len(a.Circle) != 0 {
		return false
	}
	if !isCut(len(n.Supply), a.Cut) {
		return false
	}
	return violated(n, a.Cut)
}

// acceptEndless is P8.
func acceptEndless(n api.Net, a api.Answer) bool {
	if a.Cost != 0 || len(a.Potentials) != 0 || len(a.Cut) != 0 {
		return false
	}
	if flowError(n, a.Flow) != api.OK {
		return false
	}
	if !isCircle(n, a.Circle) {
		return false
	}
	return good(n, a.Circle)
}
