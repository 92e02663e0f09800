package watch

import (
	"strconv"
	"strings"

	"flit/api"
)

// What is wrong with a scene is told by these texts, in which a thing of several parts is these in braces.

func number(n int) string { return strconv.Itoa(n) }

func whether(is bool) string { return strconv.FormatBool(is) }

func braced(parts ...string) string { return "{" + strings.Join(parts, " ") + "}" }

func thingText(x Thing) string { return braced(number(x.At), number(x.To)) }

func valText(v api.Val) string { return braced(number(v.Kind), number(v.N)) }

func outText(o api.Out) string {
	return braced(number(int(o.Code)), valText(o.V), whether(o.Yes))
}

func accessText(a api.Access) string {
	return braced(number(a.Op), number(a.At), whether(a.OK))
}

// reqText names the parts, too.
func reqText(r api.Req) string {
	return braced(
		"Op:"+number(r.Op),
		"At:"+number(r.At),
		"Field:"+number(r.Field),
		"Exp:"+namedValText(r.Exp),
		"New:"+namedValText(r.New),
	)
}

func namedValText(v api.Val) string {
	return braced("Kind:"+number(v.Kind), "N:"+number(v.N))
}

// fieldText tells that a field of a thing has v.
func fieldText(x Thing, field int, v api.Val) string {
	return "the field " + number(field) + " of " + thingText(x) + " has " + valText(v)
}
