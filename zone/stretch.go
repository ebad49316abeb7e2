package zone

import (
	"cmp"
	"slices"

	"tryst/clock"
)

// A stretch is the UTC times, from one on and up to the next stretch, that have an offset.
type stretch struct {
	from   int64
	offset int
}

// stretches returns the stretches from the one UTC time on up to the other, in ascending order.
func stretches(z Zone, from, to int64) []stretch {
	all := []stretch{{from, offsetAt(z, from)}}
	for _, o := range z.L {
		for _, at := range onsets(o, from+1, to) {
			all = append(all, stretch{at, o.To})
		}
	}
	slices.SortStableFunc(all, func(a, b stretch) int { return cmp.Compare(a.from, b.from) })
	var list []stretch
	for i, s := range all {
		// Of simultaneous onsets, that of the last observance counts.
		if i+1 == len(all) || all[i+1].from > s.from {
			list = append(list, s)
		}
	}
	return list
}

// fitting returns the least valid UTC seconds that are shown as the local ones, and whether there are any.
func fitting(list []stretch, local int64) (int64, bool) {
	for i, s := range list {
		utc := local - int64(s.offset)
		ended := i+1 < len(list) && list[i+1].from <= utc
		if s.from <= utc && !ended && clock.Right(utc) {
			return utc, true
		}
	}
	return 0, false
}

// inGap returns the local seconds by the offset before the earliest onset that skips them, and whether there is one.
func inGap(list []stretch, local int64) (int64, bool) {
	for i := 1; i < len(list); i++ {
		onset, before, after := list[i].from, int64(list[i-1].offset), int64(list[i].offset)
		if onset+before <= local && local < onset+after {
			return local - before, true
		}
	}
	return 0, false
}
