package plan

import "hawser/api"

// rule answers what is done at an item, and whether it applies there.
type rule func(api.Item) (int, bool)

// first answers what the first of the rules says that applies at the item, and Skip if none does.
func first(i api.Item, rules ...rule) int {
	for _, r := range rules {
		do, applies := r(i)
		if applies {
			return do
		}
	}
	return api.Skip
}

// settler knows by what it is settled what is done at an item.
type settler struct {
	profile api.Profile
	chosen  map[string]int // by the items' paths
}

// settle answers what is done at an item that isn't Agreed.
func (s settler) settle(i api.Item) int {
	do := first(i, s.choice, s.force, s.program, s.prefer, s.batch)
	if do == api.Go {
		return direction(i.What)
	}
	return do
}

// choice applies where somebody has chosen.
func (s settler) choice(i api.Item) (int, bool) {
	do, applies := s.chosen[i.Path]
	return do, applies
}

// force applies everywhere, if a side is forced.
func (s settler) force(api.Item) (int, bool) { return fromSide(s.profile.Force) }

// program applies at a clash whose path has a program.
func (s settler) program(i api.Item) (int, bool) {
	return api.Merge, i.What == api.Clash && Program(s.profile, i.Path) != ""
}

// prefer applies at each clash, if a side is preferred.
func (s settler) prefer(i api.Item) (int, bool) {
	do, applies := fromSide(s.profile.Prefer)
	return do, applies && i.What == api.Clash
}

// batch applies where just one side has changed, if nobody is to be asked.
func (s settler) batch(i api.Item) (int, bool) {
	return api.Go, i.What != api.Clash && s.profile.Batch
}

// fromSide answers that a side's values go to the other, and whether it is a side.
func fromSide(side int) (int, bool) {
	switch side {
	case api.A:
		return api.FromA, true
	case api.B:
		return api.FromB, true
	}
	return api.Skip, false
}

// direction answers from which side values go where just one has changed.
func direction(what int) int {
	if what == api.ToA {
		return api.FromB
	}
	return api.FromA
}
