// Package premises asks whether a typing can be asked for.
package premises

import (
	"parlance/api"
	"parlance/data"
	"parlance/lex"
	"parlance/parse"
	"parlance/scheme"
)

// Fault: FaultData, if the env or an export isn't right; FaultSyntax, if the nodes aren't those of a declaration "let".
func Fault(e api.Env, names []api.Export, nodes []api.Node) api.Fault {
	if !data.Right(e) || !rightNames(names) {
		return api.Fault{Code: api.FaultData}
	}
	if len(nodes) == 0 || nodes[len(nodes)-1].Kind != api.NLet {
		return api.Fault{Code: api.FaultSyntax}
	}
	if _, err := parse.Show(nodes); err != api.OK {
		return api.Fault{Code: api.FaultSyntax}
	}
	return api.Fault{}
}

// rightNames: may these be exports that a declaration sees? (They may be in any order.)
func rightNames(names []api.Export) bool {
	for _, x := range names {
		if lex.Kind(x.Name) != api.TName || !scheme.Closed(x.Type) {
			return false
		}
	}
	return true
}
