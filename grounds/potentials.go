package grounds

import "freight/api"

func arePotentials(nodes int, potentials []int) bool {
	if len(potentials) != nodes {
		return false
	}
	for _, potential := range potentials {
		if potential < -api.MaxPotential || potential > api.MaxPotential {
			return false
		}
	}
	return true
}

// hold takes potentials that may be, and a flow that fits.
func hold(n api.Net, potentials []int, flow []int) bool {
	for number, arc := range n.Arcs {
		drift := Drift(arc, potentials)
		if !held(arc, drift, flow[number]) {
			return false
		}
	}
	return true
}

// Drift takes an arc that may be, and a potential for each node.
func Drift(arc api.Arc, potentials []int) int {
	return arc.Cost + potentials[arc.From] - potentials[arc.To]
}

func held(arc api.Arc, drift int, amount int) bool {
	if drift > 0 {
		return amount == arc.Low
	}
	if drift < 0 {
		return !Unlimited(arc) && amount == arc.Cap
	}
	return true
}
