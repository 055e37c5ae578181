package member_test

import (
	"math"

	"semtype/samples"
	"semtype/value"
)

const (
	least    = math.MinInt64
	greatest = math.MaxInt64
)

var (
	graph    = samples.Graph
	kind     = samples.Node
	text     = samples.Text
	from     = samples.Range
	record   = samples.Record
	field    = samples.Field
	optional = samples.Optional
	key      = samples.Key

	integer = value.Int
	str     = value.String
	atom    = value.Atom
	tuple   = value.Tuple
	list    = value.List
	label   = value.WithLabels
	dict    = samples.Dict
	fun     = samples.Fun
	maps    = samples.Maps
	fails   = samples.Fails
)
