package op

import (
	"cmp"
	"slices"

	"huddle/api"
)

// What may be at most: a path has a node for the leaf and for each set above it, up to the whole of the devices; a text has a tag of 8 bytes behind it, when it is sealed.
const (
	mostNodes     = 5
	mostNodeBoxes = 12
	mostBody      = api.MaxText + 8
	mostReaction  = 20
	mostGuards    = 6
)

// fields are bits, one for each field that just some kinds have.
type fields uint16

const (
	device fields = 1 << iota
	old
	member
	role
	path
	epoch
	number
	body
	refs
	of
	guards
	need
	wait
	boxes
	pub
	hist
)

// kinds tells what each kind has, beside what all have.
var kinds = [...]fields{
	api.Create:  path | need,
	api.Add:     device | role | path | hist,
	api.Remove:  device | member | path,
	api.Update:  path,
	api.Promote: member | role,
	api.Message: epoch | number | body | refs,
	api.React:   of | body,
	api.Erase:   of,
	api.Guard:   guards | need | wait | boxes | pub,
	api.Refresh: of | boxes,
	api.Vouch:   of | device | boxes,
	api.Object:  of,
	api.Replace: of | device | old | path | hist,
}

// Check tells how an operation's form is wrong.
func Check(o api.Op) api.Errno {
	has := had(o.Kind)
	switch {
	case has == 0 || filled(o)&^has != 0:
		return api.ErrArg
	case !numbersFit(o, has) || !keysFit(o, has):
		return api.ErrRange
	case !lengthsFit(o):
		return api.ErrLong
	case !rising(o.Past, Less) || !rising(o.Guards, cmp.Less[int]):
		return api.ErrOrder
	case (o.Kind == api.Create) != (len(o.Past) == 0):
		return api.ErrPast
	}
	return api.OK
}

// had is what a kind has: something of each that there is, nothing of others.
func had(kind int) fields {
	if !within(kind, api.Create, api.Replace) {
		return 0
	}
	return kinds[kind]
}

// filled is what of an operation is not zero, or not empty.
func filled(o api.Op) fields {
	l := fields(0)
	note := func(field fields, is bool) {
		if is {
			l |= field
		}
	}
	note(device, o.Device != 0)
	note(old, o.Old != 0)
	note(member, o.Member != 0)
	note(role, o.Role != 0)
	note(path, len(o.Path) > 0)
	note(epoch, o.Epoch != api.Ident{})
	note(number, o.N != 0)
	note(body, len(o.Body) > 0)
	note(refs, len(o.Refs) > 0)
	note(of, o.Of != api.Ident{})
	note(guards, len(o.Guards) > 0)
	note(need, o.Need != 0)
	note(wait, o.Wait != 0)
	note(boxes, len(o.Boxes) > 0)
	note(pub, o.Pub != 0)
	note(hist, len(o.Hist) > 0)
	return l
}

// numbersFit tells whether all plain numbers are in their range. (What an operation has not is 0.)
func numbersFit(o api.Op, has fields) bool {
	return within(o.By, 1, api.MaxDevices) && within(o.Seq, 1, api.MaxTime) && within(o.At, 0, api.MaxTime) &&
		whomFits(o, has) &&
		(has&old == 0 || within(o.Old, 1, api.MaxDevices)) &&
		(has&role == 0 || within(o.Role, api.Reader, api.Admin)) &&
		within(o.N, 0, api.MaxTime) && within(o.Wait, 0, api.MaxTime) &&
		needFits(o) &&
		every(o.Guards, func(guard int) bool { return within(guard, 1, api.MaxDevices) })
}

// whomFits tells whether an operation's Device and Member may be.
func whomFits(o api.Op, has fields) bool {
	isDevice, isMember := within(o.Device, 1, api.MaxDevices), within(o.Member, 1, api.MaxMembers)
	if o.Kind == api.Remove {
		// One device goes, or all of a member's: not both.
		return isDevice && o.Member == 0 || isMember && o.Device == 0
	}
	return (has&device == 0 || isDevice) && (has&member == 0 || isMember)
}

// needFits tells whether it may be how many are needed: messages for newcomers, or guards.
func needFits(o api.Op) bool {
	switch o.Kind {
	case api.Create:
		return within(o.Need, 0, api.MaxHist)
	case api.Guard:
		return within(o.Need, 1, len(o.Guards))
	}
	return true
}

// keysFit tells whether all names, public keys, boxes and refs may be.
func keysFit(o api.Op, has fields) bool {
	return every(o.Past, isName) &&
		(has&epoch == 0 || isName(o.Epoch)) &&
		(has&of == 0 || isName(o.Of)) &&
		(has&pub == 0 || isPower(o.Pub)) &&
		every(o.Path, func(n api.Node) bool { return isPower(n.Pub) && every(n.Boxes, isBox) }) &&
		every(o.Boxes, isBox) &&
		every(o.Refs, isSum) &&
		every(o.Hist, func(s api.Sealed) bool { return isName(s.Of) })
}

// lengthsFit tells whether nothing has more, or fewer, than may be.
func lengthsFit(o api.Op) bool {
	return len(o.Past) <= api.MaxPast &&
		len(o.Path) <= mostNodes &&
		every(o.Path, func(n api.Node) bool { return len(n.Boxes) <= mostNodeBoxes }) &&
		len(o.Body) <= mostBody &&
		(o.Kind != api.React || within(len(o.Body), 1, mostReaction)) &&
		len(o.Refs) <= api.MaxRefs &&
		len(o.Hist) <= api.MaxHist &&
		every(o.Hist, func(s api.Sealed) bool { return len(s.Body) <= mostBody }) &&
		len(o.Guards) <= mostGuards &&
		boxesFit(o)
}

// boxesFit tells whether there are as many boxes as those that they are for.
func boxesFit(o api.Op) bool {
	switch o.Kind {
	case api.Guard:
		return len(o.Boxes) == len(o.Guards)
	case api.Refresh:
		return within(len(o.Boxes), 1, mostGuards)
	case api.Vouch:
		return len(o.Boxes) == 1
	}
	return true
}

func within(n, least, most int) bool { return least <= n && n <= most }

// isSum tells whether a number is one of the field.
func isSum(n uint64) bool { return n < api.P }

// isPower tells whether a number may be a power of G: one of the field that is not 0.
func isPower(n uint64) bool { return n > 0 && n < api.P }

func isName(id api.Ident) bool {
	return within(id.By, 1, api.MaxDevices) && within(id.Seq, 1, api.MaxTime) && isSum(id.Sum)
}

func isBox(b api.Box) bool {
	return isPower(b.To) && isPower(b.Eph) && isSum(b.Body) && isSum(b.Tag)
}

// every tells whether all of a list may be.
func every[T any](l []T, may func(T) bool) bool {
	return !slices.ContainsFunc(l, func(item T) bool { return !may(item) })
}

// rising tells whether each one of a list is less than the one behind it.
func rising[T any](l []T, less func(a, b T) bool) bool {
	for i := 1; i < len(l); i++ {
		if !less(l[i-1], l[i]) {
			return false
		}
	}
	return true
}
