package unparse

import "krait/api"

// page is what is written so far.
type page struct{ text []byte }

// printer writes nodes of a right tree. It is handed on as a value: that of an inner block has an indent of its own, but the same page.
type printer struct {
	*page
	t      api.Tree
	kinds  map[int]write
	indent int
}

// write writes what a node is.
type write func(p printer, n api.Node)

func newPrinter(t api.Tree) printer {
	return printer{page: &page{}, t: t, kinds: kinds()}
}

// kinds are what each kind of nodes is written by. A block, and the module, are written by what has them.
func kinds() map[int]write {
	return map[int]write{
		api.ONone:     printer.none,
		api.OTrue:     printer.yes,
		api.OFalse:    printer.no,
		api.OInt:      printer.integer,
		api.OStr:      printer.str,
		api.OName:     printer.name,
		api.OList:     printer.list,
		api.OTuple:    printer.tuple,
		api.ODict:     printer.dict,
		api.ONeg:      printer.negative,
		api.ONot:      printer.not,
		api.OBin:      printer.arithmetic,
		api.OCmp:      printer.comparison,
		api.OAnd:      printer.and,
		api.OOr:       printer.or,
		api.OIf:       printer.conditional,
		api.OCall:     printer.call,
		api.OAttr:     printer.attribute,
		api.OIndex:    printer.index,
		api.OSlice:    printer.slice,
		api.OLambda:   printer.lambda,
		api.OParam:    printer.parameter,
		api.SExpr:     printer.plain,
		api.SAssign:   printer.assign,
		api.SAug:      printer.augment,
		api.SIf:       printer.choice,
		api.SWhile:    printer.while,
		api.SFor:      printer.each,
		api.SBreak:    printer.stop,
		api.SContinue: printer.next,
		api.SPass:     printer.pass,
		api.SDef:      printer.def,
		api.SClass:    printer.class,
		api.SReturn:   printer.answer,
		api.SRaise:    printer.raise,
		api.STry:      printer.try,
		api.SHandler:  printer.handler,
		api.SFinal:    printer.final,
		api.SGlobal:   printer.global,
		api.SNonlocal: printer.nonlocal,
		api.SDel:      printer.del,
		api.SAssert:   printer.assert,
		api.SYield:    printer.yield,
	}
}

// say writes parts, one behind the other.
func (p printer) say(parts ...string) {
	for _, part := range parts {
		p.text = append(p.text, part...)
	}
}

// put writes a node by its kind.
func (p printer) put(n api.Node) { p.kinds[n.Op](p, n) }
