package names

import "tedder/api"

// owned: a name, and the function whose parameter it is; a global variable's has none.
type owned struct {
	function, name string
}

// variable: what is known of one. What is known of several that have to be of one kind stands at the first of them.
type variable struct {
	owned
	toFirst       int // towards that first one: the number of another one, or its own
	array, scalar bool
}

// function: the numbers of its parameters.
type function struct {
	params []int
}

// resolver: what is known of a program's names.
type resolver struct {
	functions map[string]function
	numbers   map[owned]int // where each variable stands in variables
	variables []variable
	within    string // the function whose block is gone through, if one is
	wrong     bool   // whether a name was found that isn't right
}

// newResolver gives one that knows of no names.
func newResolver() *resolver {
	return &resolver{functions: map[string]function{}, numbers: map[owned]int{}}
}

// add makes a variable, of which nothing is known, and gives its number.
func (r *resolver) add(o owned) int {
	i := len(r.variables)
	r.variables = append(r.variables, variable{owned: o, toFirst: i})
	r.numbers[o] = i
	return i
}

// number gives the number of the variable that the name is here: a parameter, or else a global one.
func (r *resolver) number(name string) int {
	if i, ok := r.numbers[owned{r.within, name}]; ok {
		return i
	}
	if i, ok := r.numbers[owned{"", name}]; ok {
		return i
	}
	i := r.add(owned{"", name})
	r.variables[i].scalar = special(name)
	return i
}

// first gives the number of the first of those that have to be of the same kind as the variable i.
func (r *resolver) first(i int) int {
	for r.variables[i].toFirst != i {
		// A shorter way for the next time keeps long rows of calls fast.
		r.variables[i].toFirst = r.variables[r.variables[i].toFirst].toFirst
		i = r.variables[i].toFirst
	}
	return i
}

// join tells that the variables i and k have to be of the same kind.
func (r *resolver) join(i, k int) {
	i, k = r.first(i), r.first(k)
	first, second := &r.variables[min(i, k)], &r.variables[max(i, k)]
	first.array = first.array || second.array
	first.scalar = first.scalar || second.scalar
	second.toFirst = min(i, k)
}

// isArray tells that the variable i has to be an array.
func (r *resolver) isArray(i int) { r.variables[r.first(i)].array = true }

// isScalar tells that the variable i has to be a scalar.
func (r *resolver) isScalar(i int) { r.variables[r.first(i)].scalar = true }

// anyIsBoth tells whether a variable has to be an array and a scalar.
func (r *resolver) anyIsBoth() bool {
	for _, v := range r.variables {
		if v.array && v.scalar {
			return true
		}
	}
	return false
}

// anyFunctionIsVariable tells whether a function bears a global variable's name.
func (r *resolver) anyFunctionIsVariable() bool {
	for name := range r.functions {
		if _, ok := r.numbers[owned{"", name}]; ok {
			return true
		}
	}
	return false
}

// define learns the functions among the items, and their parameters.
func (r *resolver) define(items []api.Node) {
	for _, item := range items {
		if item.Op == "func" {
			r.defineOne(item)
		}
	}
	for _, v := range r.variables {
		if _, ok := r.functions[v.name]; ok {
			r.wrong = true
		}
	}
}

// defineOne learns one function.
func (r *resolver) defineOne(n api.Node) {
	if _, ok := r.functions[n.Text]; ok || special(n.Text) {
		r.wrong = true
	}
	var f function
	for _, param := range paramsOf(n) {
		o := owned{n.Text, param.Text}
		if _, ok := r.numbers[o]; ok || special(o.name) {
			r.wrong = true
		}
		f.params = append(f.params, r.add(o))
	}
	r.functions[n.Text] = f
}

// paramsOf gives the nodes of a function's parameters.
func paramsOf(n api.Node) []api.Node {
	if len(n.Kids) == 0 {
		return nil
	}
	return n.Kids[0].Kids
}
