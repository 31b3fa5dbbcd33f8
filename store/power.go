package store

import (
	"slices"

	"saltus/api"
	"saltus/device"
	"saltus/trust"
)

// endless is the fuel with which the power does not go.
const endless = -1

// powerGone is what an act panics with for which no fuel is left.
type powerGone struct{}

// diskLied is what a mount panics with that finds no flush.
type diskLied struct{}

// done is a volume behind some work; or where that ended, if the power went, or the disk lied.
func done(v api.Vol, work func(*api.Vol)) (then api.Vol, e api.Errno) {
	then = copied(v)
	defer func() {
		switch why := recover().(type) {
		case nil:
		case powerGone:
			then.State, e = api.VOff, api.ErrState
		case diskLied:
			then.State, e = api.VFailed, api.ErrIntegrity
		default:
			panic(why)
		}
	}()
	work(&then)
	return then, api.OK
}

// copied is a volume whose lists are its own: the calls below give lists of their own for those that they change, and an answer shares none of the others.
func copied(v api.Vol) api.Vol {
	v.Dev.Store = slices.Clone(v.Dev.Store)
	v.Dev.Cache = slices.Clone(v.Dev.Cache)
	v.Items = slices.Clone(v.Items)
	v.Used.Low = slices.Clone(v.Used.Low)
	v.Wait = slices.Clone(v.Wait)
	return v
}

// act takes one of the acts that are left; or the power goes.
func act(v *api.Vol) {
	if v.Fuel == 0 {
		panic(powerGone{})
	}
	if v.Fuel > 0 {
		v.Fuel--
	}
}

// write has a text be a sector's.
func write(v *api.Vol, at int, text string) {
	if len(v.Dev.Cache) == api.MaxCache {
		barrier(v)
	}
	act(v)
	v.Dev, _ = device.Write(v.Dev, at, text)
}

// barrier has all stay that was written.
func barrier(v *api.Vol) {
	act(v)
	v.Dev, _ = device.Barrier(v.Dev)
}

// boot begins the slot.
func boot(v *api.Vol) {
	act(v)
	v.Trust, _ = trust.Boot(v.Trust)
}

// commit has the slot know a flush's number.
func commit(v *api.Vol, number uint64) {
	act(v)
	v.Trust, _ = trust.Commit(v.Trust, number)
}
