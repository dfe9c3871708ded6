package reals

import (
	"reals/api"
	"reals/matrix"
	"reals/network"
	"reals/plan"
)

// begin looks at a request's arguments and works out the fractions.
func (x *Expr) begin(asked int, fuel int) (*plan.Part, api.Errno) {
	if x == nil || asked < 0 || asked > api.MaxAsk || fuel < 0 || fuel > api.MaxFuel {
		return nil, api.ErrArg
	}
	return plan.Of(x.root)
}

// symbols tells the sign of the whole (Plus, if it has none) and k digits.
func (x *Expr) symbols(k int, fuel int) ([]matrix.Symbol, api.Errno) {
	part, err := x.begin(k, fuel)
	if err != api.OK {
		return nil, err
	}
	number := network.New(part, fuel)
	if number == nil {
		return nil, api.ErrArg
	}
	list := []matrix.Symbol{}
	if !number.HasSign() {
		list = append(list, matrix.Plus)
	}
	for len(list) <= k {
		symbol := number.Next()
		if symbol == matrix.None {
			return nil, api.ErrFuel
		}
		list = append(list, symbol)
	}
	return list, api.OK
}
