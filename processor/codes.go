package processor

import "wards/api"

// row is a code's row in the table of codes.
type row struct {
	do     func(*work) int // it answers a cause
	cycles int
}

// find gives a code's row, if it has one: the other codes are illegal.
func find(code int) (row, bool) {
	table := [...]row{
		api.Load:  {(*work).load, 1},
		api.High:  {(*work).high, 1},
		api.Move:  {(*work).move, 1},
		api.Add:   {(*work).add, 1},
		api.Sub:   {(*work).sub, 1},
		api.Mul:   {(*work).mul, 3},
		api.Div:   {(*work).div, 5},
		api.And:   {(*work).and, 1},
		api.Or:    {(*work).or, 1},
		api.Xor:   {(*work).xor, 1},
		api.Left:  {(*work).left, 1},
		api.Right: {(*work).right, 1},
		api.Get:   {(*work).get, 2},
		api.Put:   {(*work).put, 2},
		api.Jump:  {(*work).jump, 1},
		api.Zero:  {(*work).zero, 1},
		api.Minus: {(*work).minus, 1},
		api.Call:  {(*work).call, 4},
	}
	if code >= len(table) || table[code].do == nil {
		return row{}, false
	}
	return table[code], true
}
