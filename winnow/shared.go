package winnow

import "licit/api"

// Shared returns the places of fingerprints of two lists with equal hashes, in the order of the first list, and then of the second one: ErrOrder, if a list is not in order; ErrTooLarge, if there are too many pairs.
func Shared(a, b []api.Print) ([][2]int, api.Errno) {
	if !inOrder(a) || !inOrder(b) {
		return nil, api.ErrOrder
	}
	places := map[int][]int{}
	for _, p := range b {
		places[p.Hash] = append(places[p.Hash], p.At)
	}
	var pairs [][2]int
	for _, p := range a {
		for _, at := range places[p.Hash] {
			if len(pairs) == api.MaxList {
				return nil, api.ErrTooLarge
			}
			pairs = append(pairs, [2]int{p.At, at})
		}
	}
	return pairs, api.OK
}

// inOrder says whether a list of fingerprints is in order: no place is the one before, or in front of it.
func inOrder(l []api.Print) bool {
	for i := range len(l) - 1 {
		if l[i].At >= l[i+1].At {
			return false
		}
	}
	return true
}
