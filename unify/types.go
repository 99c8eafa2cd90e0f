package unify

import (
	"iter"

	"parlance/api"
)

// Size: how many parts.
func (s *Store) Size(n int) int {
	if !s.has(n) {
		return 0
	}
	size := 0
	for range s.parts(n) {
		size++
		if size > api.MaxType {
			break
		}
	}
	return size
}

// Types: what nodes stand for.
func (s *Store) Types(nodes ...int) ([]api.Type, api.Errno) {
	if !s.has(nodes...) {
		return nil, api.ErrUnknown
	}
	for _, n := range nodes {
		if s.Size(n) > api.MaxType {
			return nil, api.ErrType
		}
	}
	numbers := map[int]int{}
	for v := range s.variables(nodes...) {
		numbers[v] = len(numbers)
	}
	types := make([]api.Type, 0, len(nodes))
	for _, n := range nodes {
		types = append(types, s.build(n, numbers))
	}
	return types, api.OK
}

// Copy: a node with other variables.
func (s *Store) Copy(n int, keep ...int) (int, api.Errno) {
	switch {
	case !s.has(n) || !s.has(keep...):
		return 0, api.ErrUnknown
	case s.Size(n) > api.MaxType:
		return 0, api.ErrType
	}
	made := map[int]int{}
	for v := range s.variables(keep...) {
		made[v] = v
	}
	var again func(n int) int
	again = func(n int) int {
		n = s.first(n)
		if m, known := made[n]; known {
			return m
		}
		p, known := s.shape(n)
		if !known {
			made[n] = s.Var()
			return made[n]
		}
		args := make([]int, 0, len(p.args))
		for _, arg := range p.args {
			args = append(args, again(arg))
		}
		made[n] = s.add(p.kind, p.name, args)
		return made[n]
	}
	return again(n), api.OK
}

// parts goes through a type's parts from the left, each as often as it stands there.
func (s *Store) parts(n int) iter.Seq[int] {
	return func(yield func(int) bool) {
		var enter func(n int) bool
		enter = func(n int) bool {
			if !yield(n) {
				return false
			}
			p, _ := s.shape(n)
			for _, arg := range p.args {
				if !enter(arg) {
					return false
				}
			}
			return true
		}
		enter(n)
	}
}

// variables goes through the variables within nodes, each once, in the order in which they first stand there.
func (s *Store) variables(nodes ...int) iter.Seq[int] {
	return func(yield func(int) bool) {
		seen := map[int]struct{}{}
		var enter func(n int) bool
		enter = func(n int) bool {
			n = s.first(n)
			if _, again := seen[n]; again {
				return true
			}
			seen[n] = struct{}{}
			p, known := s.shape(n)
			if !known {
				return yield(n)
			}
			for _, arg := range p.args {
				if !enter(arg) {
					return false
				}
			}
			return true
		}
		for _, n := range nodes {
			if !enter(n) {
				return
			}
		}
	}
}

// build: what a node stands for, its variables with these numbers.
func (s *Store) build(n int, numbers map[int]int) api.Type {
	p, known := s.shape(n)
	if !known {
		return api.Type{Kind: api.KVar, Num: numbers[s.first(n)]}
	}
	t := api.Type{Kind: p.kind, Name: p.name}
	for _, arg := range p.args {
		t.Args = append(t.Args, s.build(arg, numbers))
	}
	return t
}
