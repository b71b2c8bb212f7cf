package number

// operators are what each of them makes of two ints, or the class of what is raised.
func operators() map[string]func(a, b int64) (int64, string) {
	return map[string]func(a, b int64) (int64, string){
		"+":  sum,
		"-":  difference,
		"*":  product,
		"//": quotient,
		"%":  remainder,
		"**": power,
	}
}

func sum(a, b int64) (int64, string) {
	s := a + b
	// What has gone round lies on the wrong side of a.
	if (s < a) != (b < 0) {
		return 0, overflowError
	}
	return s, ""
}

func difference(a, b int64) (int64, string) {
	d := a - b
	if (d > a) != (b < 0) {
		return 0, overflowError
	}
	return d, ""
}

func product(a, b int64) (int64, string) {
	switch a {
	case 0:
		return 0, ""
	case -1:
		// Here dividing would go round again, and hide that the product did.
		return Neg(b)
	}
	p := a * b
	if p/a != b {
		return 0, overflowError
	}
	return p, ""
}

func quotient(a, b int64) (int64, string) {
	switch b {
	case 0:
		return 0, zeroError
	case -1:
		return Neg(a)
	}
	q := a / b
	// Go rounds towards 0.
	if a%b != 0 && (a < 0) != (b < 0) {
		q--
	}
	return q, ""
}

func remainder(a, b int64) (int64, string) {
	if b == 0 {
		return 0, zeroError
	}
	r := a % b
	if r != 0 && (r < 0) != (b < 0) {
		r += b
	}
	return r, ""
}

// power squares, so that it ends soon also where 1 is a factor very often.
func power(a, b int64) (int64, string) {
	if b < 0 {
		return 0, valueError
	}
	p, raised := int64(1), ""
	for {
		if b%2 == 1 {
			if p, raised = product(p, a); raised != "" {
				return 0, raised
			}
		}
		b /= 2
		// A square that no factor comes of any more may be too great.
		if b == 0 {
			return p, ""
		}
		if a, raised = product(a, a); raised != "" {
			return 0, raised
		}
	}
}
