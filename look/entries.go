package look

import (
	"breakwater/api"
	"breakwater/layout"
)

// directory goes through a directory's slots: takes up what its entries name, and empties the slots that are none.
func (l *looking) directory(slots []int) {
	names := map[string]struct{}{}
	for _, n := range slots {
		s, e := layout.ReadSlot(l.want[n])
		switch {
		case e == api.OK && s == (api.Slot{}):
		case e == api.OK && l.isEntry(s, names):
			names[s.Name] = struct{}{}
			l.enter(s.Ino)
		default:
			l.want[n] = api.Sector{}
		}
	}
}

// isEntry tells whether a slot that is not empty is an entry, in a directory that has these names so far.
func (l *looking) isEntry(s api.Slot, names map[string]struct{}) bool {
	if _, there := names[s.Name]; there || s.Ino == api.Root {
		return false
	}
	if x, is := l.taken[s.Ino]; is {
		return x.Kind == api.KindFile && x.Links < api.MaxLinks
	}
	_, is := l.sound(s.Ino)
	return is
}

// enter counts an entry of an inode that is sound, which is taken up by its first one.
func (l *looking) enter(i int) {
	x, is := l.taken[i]
	if !is {
		x, _ = l.sound(i)
		x = l.takeUp(x)
	}
	x.Links++
	l.taken[i] = x
}
