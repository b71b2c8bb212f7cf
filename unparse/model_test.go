package unparse_test

import (
	"strconv"
	"strings"

	"krait/api"
	"krait/scan"
)

// modelLevel and modelRow are the chapter's tables. In a row S is the node's, a digit (or A for 10) the next kid at that level, * all kids that are left as items, - these but the last one, ? the next kid if it is no None; other parts stand there as they are.
func modelLevel(n api.Node) int {
	if n.Op == api.OBin {
		return map[string]int{"+": 6, "-": 6, "*": 7, "//": 7, "%": 7, "**": 9}[n.S]
	}
	level, ok := map[int]int{
		api.OLambda: 0, api.OIf: 1, api.OOr: 2, api.OAnd: 3, api.ONot: 4, api.OCmp: 5, api.ONeg: 8,
		api.OCall: 10, api.OAttr: 10, api.OIndex: 10, api.OSlice: 10,
	}[n.Op]
	if !ok {
		return 11
	}
	return level
}

func modelRow(n api.Node) string {
	switch n.Op {
	case api.OInt:
		return strconv.FormatInt(n.N, 10)
	case api.OStr:
		return scan.Quote(n.S)
	case api.OName:
		return n.S
	case api.OTuple:
		if len(n.Kids) == 1 {
			return "( 0 ,)"
		}
	case api.ODict:
		return "{ " + strings.Join(repeated("0 : _ 0", len(n.Kids)/2), " , _ ") + " }"
	case api.OBin:
		return map[string]string{"+": "6 _ S _ 7", "-": "6 _ S _ 7", "*": "7 _ S _ 8", "//": "7 _ S _ 8", "%": "7 _ S _ 8", "**": "A _ S _ 8"}[n.S]
	case api.OLambda:
		if len(n.Kids) == 1 {
			return "lambda: _ 0"
		}
	case api.OParam:
		if len(n.Kids) == 0 {
			return "S"
		}
	}
	return map[int]string{
		api.ONone: "None", api.OTrue: "True", api.OFalse: "False", api.OList: "[ * ]", api.OTuple: "( * )", api.ONeg: "- 8", api.ONot: "not _ 4",
		api.OCmp: "6 _ S _ 6", api.OAnd: "3 _ and _ 4", api.OOr: "2 _ or _ 3", api.OIf: "2 _ if _ 2 _ else _ 0",
		api.OCall: "A ( * )", api.OAttr: "A . S", api.OIndex: "A [ 0 ]", api.OSlice: "A [ ? : ? ]", api.OLambda: "lambda _ - : _ 0", api.OParam: "S = 0",
	}[n.Op]
}

func repeated(s string, many int) []string {
	all := make([]string, many)
	for i := range all {
		all[i] = s
	}
	return all
}

// modelAt is an expression's text at a level.
func modelAt(t api.Tree, node, level int) string {
	if s := modelText(t, t[node]); modelLevel(t[node]) >= level {
		return s
	} else {
		return "(" + s + ")"
	}
}

func modelItems(t api.Tree, nodes []int) string {
	var all []string
	for _, node := range nodes {
		all = append(all, modelAt(t, node, 0))
	}
	return strings.Join(all, ", ")
}

func modelText(t api.Tree, n api.Node) string {
	row := modelRow(n)
	if n.Op == api.OInt || n.Op == api.OStr || n.Op == api.OName {
		return row
	}
	var s strings.Builder
	kids := n.Kids
	for _, part := range strings.Fields(row) {
		switch part {
		case "_":
			part = " "
		case "S":
			part = n.S
		case "*":
			part, kids = modelItems(t, kids), nil
		case "-":
			if n.Op == api.OLambda {
				part, kids = modelItems(t, kids[:len(kids)-1]), kids[len(kids)-1:]
			}
		case "?":
			part = ""
			if t[kids[0]].Op != api.ONone {
				part = modelAt(t, kids[0], 0)
			}
			kids = kids[1:]
		default:
			if level := strings.Index("0123456789A", part); level >= 0 {
				part = modelAt(t, kids[0], level)
				kids = kids[1:]
			}
		}
		s.WriteString(part)
	}
	return s.String()
}

// modelHead is the first line of a statement whose expressions have these texts.
func modelHead(n api.Node, e []string) string {
	all := strings.Join(e, ", ")
	// behind is a word, and, if there are expressions, a blank and these.
	behind := func(word string) string { return strings.TrimSuffix(word+" "+all, " ") }
	bases := ""
	if all != "" {
		bases = "(" + all + ")"
	}
	as := ""
	if n.S != "" {
		as = " as " + n.S
	}
	names := strings.Join(strings.Fields(n.S), ", ")
	return map[int]string{
		api.SExpr: all, api.SAssign: strings.Join(e, " = "), api.SAug: strings.Join(e, " "+n.S+"= "),
		api.SIf: "if " + all + ":", api.SWhile: "while " + all + ":", api.SFor: "for " + strings.Join(e, " in ") + ":",
		api.SBreak: "break", api.SContinue: "continue", api.SPass: "pass",
		api.SDef: "def " + n.S + "(" + all + "):", api.SClass: "class " + n.S + bases + ":",
		api.SReturn: behind("return"), api.SRaise: behind("raise"),
		api.STry: "try:", api.SHandler: behind("except") + as + ":", api.SFinal: "finally:",
		api.SGlobal: "global " + names, api.SNonlocal: "nonlocal " + names,
		api.SDel: "del " + all, api.SAssert: "assert " + all, api.SYield: "yield " + all,
	}[n.Op]
}

// modelLines are a statement's, as if it lay in no block.
func modelLines(t api.Tree, n api.Node) []string {
	var e []string
	kids := n.Kids
	for len(kids) > 0 && t[kids[0]].Op < api.SModule {
		e, kids = append(e, modelAt(t, kids[0], 0)), kids[1:]
	}
	lines := []string{modelHead(n, e)}
	if len(kids) > 0 {
		lines, kids = append(lines, modelBlock(t, kids[0])...), kids[1:]
	}
	for _, kid := range kids {
		lines = append(lines, modelRest(t, kid)...)
	}
	return lines
}

// modelRest are the lines of what stands behind a first block.
func modelRest(t api.Tree, node int) []string {
	n := t[node]
	if n.Op != api.SBlock {
		return modelLines(t, n)
	}
	if only := t[n.Kids[0]]; len(n.Kids) == 1 && only.Op == api.SIf {
		elif := modelLines(t, only)
		elif[0] = "el" + elif[0]
		return elif
	}
	return append([]string{"else:"}, modelBlock(t, node)...)
}

func modelBlock(t api.Tree, node int) []string {
	var lines []string
	for _, kid := range t[node].Kids {
		for _, s := range modelLines(t, t[kid]) {
			lines = append(lines, "    "+s)
		}
	}
	return lines
}

// modelled is what the chapter says of a right tree.
func modelled(t api.Tree) string {
	var s strings.Builder
	for _, kid := range t[len(t)-1].Kids {
		for _, line := range modelLines(t, t[kid]) {
			s.WriteString(line + "\n")
		}
	}
	return s.String()
}
