package quota

import "sacristy/path"

// sums is bytes and entries, of what one has or of a charge.
type sums struct{ bytes, entries int }

func (s sums) plus(t sums) sums {
	return sums{s.bytes + t.bytes, s.entries + t.entries}
}

func (l *Ledger) own(p string) (sums, bool) {
	for _, s := range l.names.Spaces {
		if s.Path == p {
			return sums{s.OwnBytes, s.OwnEntries}, true
		}
	}
	return sums{}, false
}

// add gives as much more to p, of its own, and to those that it is under; p itself need not be there any more.
func (l *Ledger) add(p string, much sums) {
	for place, s := range l.names.Spaces {
		if !path.Under(p, s.Path) {
			continue
		}
		s.Bytes += much.bytes
		s.Entries += much.entries
		if s.Path == p {
			s.OwnBytes += much.bytes
			s.OwnEntries += much.entries
		}
		l.names.Spaces[place] = s
	}
}

// isBeyond tells whether p, or one that it is under, would have more than its limit of what there shall be more of.
func (l *Ledger) isBeyond(p string, much sums) bool {
	for _, s := range l.names.Spaces {
		if path.Under(p, s.Path) && (exceeds(s.Bytes, much.bytes, s.MaxBytes) || exceeds(s.Entries, much.entries, s.MaxEntries)) {
			return true
		}
	}
	return false
}

func exceeds(has, more, limit int) bool {
	return more > 0 && has+more > limit
}

// kids is what the kids of each path have together.
func (l *Ledger) kids() map[string]sums {
	together := map[string]sums{}
	for _, s := range l.names.Spaces {
		if parent, ok := path.Parent(s.Path); ok {
			together[parent] = together[parent].plus(sums{s.Bytes, s.Entries})
		}
	}
	return together
}
