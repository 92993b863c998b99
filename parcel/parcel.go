// Package parcel: replicas of a card box as bundles of bytes: see DOC.md.
package parcel

import (
	"parcel/api"
	"parcel/bundles"
	"parcel/chains"
	"parcel/replicas"
	"parcel/sound"
	"parcel/volumes"
)

// Check tells whether a replica is sound (P3).
func Check(r api.Replica) api.Errno {
	return sound.Check(r)
}

// Export makes a whole bundle of a replica (P5).
func Export(r api.Replica) (string, api.Errno) {
	fault := sound.Check(r)
	if fault != api.OK {
		return "", fault
	}
	return bundles.Bundle(api.Link{State: r}), api.OK
}

// Read tells what a bundle holds; with an error, the place (P6).
func Read(b string) (api.Link, api.Errno, int) {
	return bundles.Read(b)
}

// Restore makes a replica of a whole bundle; with an error, the place (P7).
func Restore(b string) (api.Replica, api.Errno, int) {
	link, fault, place := bundles.Read(b)
	if fault != api.OK {
		return api.Replica{}, fault, place
	}
	if link.Seq != 0 {
		return api.Replica{}, api.ErrDelta, 0
	}
	fault = sound.Check(link.State)
	if fault != api.OK {
		return api.Replica{}, fault, 0
	}
	return link.State, api.OK, 0
}

// Salvage finds all records that stand in some bytes (P8).
func Salvage(b string) []api.Found {
	return bundles.Salvage(b)
}

// Split cuts bytes into volumes (P9).
func Split(b string, size int) ([]string, api.Errno) {
	return volumes.Split(b, size)
}

// Join makes the bytes of volumes; with an error, which volume (P10).
func Join(l []string) (string, api.Errno, int) {
	return volumes.Join(l)
}

// Merge makes of two replicas the one that knows what both know (P11).
func Merge(a api.Replica, b api.Replica) (api.Replica, api.Errno) {
	fault := sound.Check(a)
	if fault != api.OK {
		return api.Replica{}, fault
	}
	fault = sound.Check(b)
	if fault != api.OK {
		return api.Replica{}, fault
	}
	if replicas.Clashing(a.Cards, b.Cards) {
		return api.Replica{}, api.ErrClash
	}
	merged := replicas.Merged(a, b)
	if sound.TooMany(merged) {
		return api.Replica{}, api.ErrMany
	}
	return merged, api.OK
}

// Replay makes the replica of a chain of bundles; with an error, which link (P12).
func Replay(l []string) (api.Replica, api.Errno, int) {
	return chains.Replay(l)
}

// Extend makes a chain's next bundle, of what is new in a replica; with an error, which link (P13).
func Extend(l []string, r api.Replica) (string, api.Errno, int) {
	return chains.Extend(l, r)
}
