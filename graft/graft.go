// Package graft lays nodes into a wood and takes them out of it, without touching what counts. Grow and prune, layers 9 and 10, stand on it.
package graft

import (
	"slices"

	"penelope/alloc"
	"penelope/api"
	"penelope/look"
	"penelope/node"
	"penelope/page"
)

// Stock is a wood that is being changed: its lists are its own. Behind an error it is not to be used any more, as half of a change may be done.
type Stock struct {
	api.Wood
}

// Step is a node on the way down from the root, the block in which it lies, and the number of the child to which the way goes on.
type Step struct {
	Block int
	Node  api.Node
	Kid   int
}

// Of is asked only of a wood that may be.
func Of(w api.Wood) Stock {
	w.Base, w.Now, w.Pages = slices.Clone(w.Base), slices.Clone(w.Now), slices.Clone(w.Pages)
	return Stock{Wood: w}
}

// Down is the way to the leaf that the key belongs to. No block is on it twice: a way that comes back to one goes round from there on, comes to no leaf, and is over where no tree is so high.
func (s *Stock) Down(key string) ([]Step, api.Errno) {
	var way []Step
	block := s.Root
	for range api.MaxHeight {
		n, e := look.Load(s.Wood, block, len(way) == 0)
		if e != api.OK {
			return nil, e
		}
		kid := node.Kid(n, key)
		way = append(way, Step{Block: block, Node: n, Kid: kid})
		if n.Leaf {
			return way, api.OK
		}
		block = n.Kids[kid]
	}
	return nil, api.ErrTree
}

// Renew lays a node in the block of an elder one, or, if that one counts, in another block: what counts is never written over.
func (s *Stock) Renew(block int, n api.Node) (int, api.Errno) {
	if !s.Base[block] {
		return block, s.write(block, n)
	}
	if e := s.Drop(block); e != api.OK {
		return 0, e
	}
	return s.Lay(n)
}

// Lay takes a block for a node.
func (s *Stock) Lay(n api.Node) (int, api.Errno) {
	a, block, e := alloc.Take(s.Alloc)
	if e != api.OK {
		return 0, e
	}
	s.Alloc = a
	return block, s.write(block, n)
}

// Drop gives a node's block back; its bytes stay, as they may count.
func (s *Stock) Drop(block int) api.Errno {
	a, e := alloc.Give(s.Alloc, block)
	if e != api.OK {
		return api.ErrTree
	}
	s.Alloc = a
	return api.OK
}

func (s *Stock) write(block int, n api.Node) api.Errno {
	body, e := node.Put(n)
	if e != api.OK {
		return api.ErrTree
	}
	// No error is possible: a wood's Gen may be a page's, and a body of eight pairs has room in one.
	s.Pages[block], _ = page.Put(api.Page{Kind: kindOf(n), Gen: s.Gen, Body: body})
	return api.OK
}

func kindOf(n api.Node) int {
	if n.Leaf {
		return api.PLeaf
	}
	return api.PInner
}

// WithPairs is a leaf in which other pairs stand in place of those between two places.
func WithPairs(n api.Node, from, to int, pairs ...api.Pair) api.Node {
	row := api.Node{}
	for _, p := range pairs {
		row.Keys, row.Vals = append(row.Keys, p.Key), append(row.Vals, p.Val)
	}
	return api.Node{Leaf: true, Keys: spliced(n.Keys, from, to, row.Keys), Vals: spliced(n.Vals, from, to, row.Vals)}
}

// WithKids is an inner node in which a row of children, with the keys between them, stands in place of the children between two places.
func WithKids(n api.Node, from, to int, row api.Node) api.Node {
	return api.Node{Keys: spliced(n.Keys, from, to-1, row.Keys), Kids: spliced(n.Kids, from, to, row.Kids)}
}

// spliced is a row in which another one stands in place of what is between two places, always in memory of its own.
func spliced[T any](row []T, from, to int, other []T) []T {
	return slices.Concat(row[:from], other, row[to:])
}
