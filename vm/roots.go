package vm

import "slices"

// Globals tells the globals' addresses.
func (v *Machine) Globals() []int64 {
	var list []int64
	for n, address := range v.module.Globals {
		if address && v.globals[n] != 0 {
			list = append(list, v.globals[n])
		}
	}
	return list
}

// Stacks tells the goroutines.
func (v *Machine) Stacks() []int { return v.table.IDs() }

// Stack tells one's addresses.
func (v *Machine) Stack(id int) []int64 {
	stack := v.table.Stack(id)
	if stack == nil {
		return nil
	}
	return stack.Roots(v.module)
}

// roots are the addresses of all globals and stacks.
func (v *Machine) roots() []int64 {
	list := v.Globals()
	for _, id := range v.Stacks() {
		list = append(list, v.Stack(id)...)
	}
	return list
}

// Live tells all that can be come to.
func (v *Machine) Live() []int64 { return v.heap.Cycle().Marker().Reach(v.roots()...) }

// Sound tells whether all that can be come to is there.
func (v *Machine) Sound() bool {
	c, live := v.heap.Cycle(), v.Live()
	named := v.roots()
	for _, addr := range live {
		if !c.Arena().Is(addr) {
			return false
		}
		named = append(named, c.Marker().Fields(addr)...)
	}
	for _, addr := range named {
		if _, ok := slices.BinarySearch(live, addr); !ok {
			return false
		}
	}
	return true
}
