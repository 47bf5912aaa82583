package wards

import "wards/api"

// What a device has for its ward, one address each, from Devices on.
const (
	inputAt = iota
	outputAt
	deviceAddresses // how many they are
)

// device is a device of the machine.
type device struct {
	latched uint32 // what its input gives
	log     []byte // what was put to its output
}

// put appends a word to the log, four bytes, the high one first.
func (d *device) put(word uint32) {
	d.log = append(d.log, byte(word>>24), byte(word>>16), byte(word>>8), byte(word))
}

// hasDevice tells whether there is a device of this number.
func (x *Kernel) hasDevice(number int) bool { return number >= 0 && number < len(x.devices) }

// findDevice tells which device of the ward has its input (or its output) at an address, if one has.
func (w *ward) findDevice(part, address uint32) (int, bool) {
	if address < api.Devices {
		return 0, false
	}
	at := address - api.Devices
	k := at / deviceAddresses
	if at%deviceAddresses != part || k >= uint32(len(w.devices)) {
		return 0, false
	}
	return w.devices[k], true
}
