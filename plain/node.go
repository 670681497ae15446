package plain

import (
	"maps"
	"slices"
	"strings"

	"breakwater/api"
)

// node is a file or a directory.
type node struct {
	kind   int
	links  int
	made   int
	size   int                // a file's bytes
	blocks map[int]api.Sector // a file's blocks that are there; their bytes from size on are 0
	slots  []int              // a directory's: the inode that each of them names; 0: it is empty
	names  map[string]int     // in which of them a name stands
}

func newNode(kind, made int) *node {
	return &node{kind: kind, links: 1, made: made, blocks: map[int]api.Sector{}, names: map[string]int{}}
}

// copy is another one that has the same.
func (n *node) copy() *node {
	c := *n
	c.blocks, c.slots, c.names = maps.Clone(n.blocks), slices.Clone(n.slots), maps.Clone(n.names)
	return &c
}

func (n *node) isDirectory() bool { return n.kind == api.KindDir }

// length is what is told as its Size.
func (n *node) length() int {
	if n.isDirectory() {
		return len(n.slots) * api.SectorSize
	}
	return n.size
}

// tally counts the sectors that it has.
func (n *node) tally() tally {
	var t tally
	for k := range n.blocks {
		t.add(k)
	}
	for k := range n.slots {
		t.add(k)
	}
	return t
}

// find is the inode that a directory has by a name, if it has it.
func (n *node) find(name string) (int, bool) {
	k, there := n.names[name]
	if !there {
		return 0, false
	}
	return n.slots[k], true
}

// leastPlace is the least empty slot of a directory, or one more behind all of them.
func (n *node) leastPlace() int {
	if k := slices.Index(n.slots, 0); k >= 0 {
		return k
	}
	return len(n.slots)
}

// enter lets a name and its inode stand in a slot.
func (n *node) enter(k int, name string, i int) {
	if k == len(n.slots) {
		n.slots = append(n.slots, 0)
	}
	n.slots[k] = i
	n.names[strings.Clone(name)] = k // a piece of a path would keep the whole of it
}

// leave empties the slot of a name. The slot stays.
func (n *node) leave(name string) {
	n.slots[n.names[name]] = 0
	delete(n.names, name)
}
