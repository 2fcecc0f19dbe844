package graphtext_test

import (
	"reflect"
	"regexp"
	"slices"
	"strconv"
	"strings"
	"testing"

	"selfstab/api"
	"selfstab/graph"
	"selfstab/graphtext"
)

// example is the graph of the chapter, and written is its text.
func example() api.Graph {
	return api.Graph{IDs: []int{7, 3}, Ports: [][]api.Link{{{To: 1, Weight: 5}}, {{To: 0, Weight: 5}}}}
}

const written = "node 7 1/5\nnode 3 0/5\n"

// linked returns n nodes of which each pair for which joined is true has a link; the ports of odd nodes descend.
func linked(n int, joined func(a, b int) bool) api.Graph {
	var g api.Graph
	for v := range n {
		var ports []api.Link
		for u := range n {
			if u != v && joined(min(u, v), max(u, v)) {
				ports = append(ports, api.Link{To: u, Weight: 1 + (u+v)%api.MaxWeight})
			}
		}
		if v%2 == 1 {
			slices.Reverse(ports)
		}
		g.IDs, g.Ports = append(g.IDs, api.MaxID-v), append(g.Ports, ports)
	}
	return g
}

// equal reports whether two graphs are equal; nil and empty lists are (R3).
func equal(a, b api.Graph) bool {
	return slices.Equal(a.IDs, b.IDs) && slices.EqualFunc(a.Ports, b.Ports, slices.Equal[[]api.Link])
}

// wantParse checks that the text is read as the graph g, and that it is written again.
func wantParse(t *testing.T, text string, g api.Graph) {
	t.Helper()
	got, line, e := graphtext.Parse(text)
	if !equal(got, g) || line != 0 || e != api.OK {
		t.Errorf("%q: %v, %d, %d", text, got, line, e)
	}
	if again, e := graphtext.Format(got); again != strings.TrimSuffix(text, "\n")+"\n" || e != api.OK {
		t.Errorf("%q is written as %q, %d", text, again, e)
	}
}

// wantError checks that the text leads to this error with this line, and to no graph (R5).
func wantError(t *testing.T, text string, line int, e api.Errno) {
	t.Helper()
	got, gotLine, gotE := graphtext.Parse(text)
	if gotLine != line || gotE != e || !reflect.DeepEqual(got, api.Graph{}) {
		t.Errorf("%.60q: %v, %d, %d instead of line %d, error %d", text, got, gotLine, gotE, line, e)
	}
}

// P2.1, P2.2
func TestParse(t *testing.T) {
	one := api.Graph{IDs: []int{0}, Ports: [][]api.Link{nil}}
	kite := api.Graph{IDs: []int{9, 0, 255, 100}, Ports: [][]api.Link{
		{{To: 2, Weight: 3}, {To: 1, Weight: 1}}, {{To: 0, Weight: 1}, {To: 2, Weight: 10}},
		{{To: 3, Weight: 15}, {To: 0, Weight: 3}, {To: 1, Weight: 10}}, {{To: 2, Weight: 15}},
	}}
	for text, g := range map[string]api.Graph{
		written:            example(),
		"node 0\n":         one,
		"node 0\nnode 1\n": {IDs: []int{0, 1}, Ports: make([][]api.Link, 2)},
		"node 9 2/3 1/1\nnode 0 0/1 2/10\nnode 255 3/15 0/3 1/10\nnode 100 2/15\n": kite,
	} {
		wantParse(t, text, g)
		wantParse(t, strings.TrimSuffix(text, "\n"), g) // the last line may lack its line feed
	}
}

// P2.1: the number of the line, wherever the line stands that does not have the form.
func TestLineOfAnError(t *testing.T) {
	good := []string{"node 7 1/5", "node 3 0/5", "node 4"}
	wantParse(t, strings.Join(good, "\n"), api.Graph{IDs: []int{7, 3, 4}, Ports: append(example().Ports, nil)})
	for _, bad := range []string{"", " ", "nodes 7", "node 07", "node 7 1/5 9", "node 7  1/5", "node 7 "} {
		for at := range len(good) + 1 {
			text := strings.Join(slices.Insert(slices.Clone(good), at, bad), "\n")
			if at < len(good) || bad != "" {
				wantError(t, text, at+1, api.ErrSyntax)
			}
			wantError(t, text+"\n", at+1, api.ErrSyntax)
			wantError(t, text+"\n"+bad+"\nnode x\n", at+1, api.ErrSyntax) // the first one counts
		}
	}
	wantError(t, strings.Repeat("node 1\n", 2000)+"node\n", 2001, api.ErrSyntax)
}

// P2.1: texts without lines, and lines without bytes.
func TestEmpty(t *testing.T) {
	wantError(t, "", 1, api.ErrSyntax)
	wantError(t, "\n", 1, api.ErrSyntax)
	wantError(t, "\n\n", 1, api.ErrSyntax)
	wantError(t, "\n"+written, 1, api.ErrSyntax)
	wantError(t, "node 7 1/5\n\nnode 3 0/5\n", 2, api.ErrSyntax)
	wantError(t, written+"\n", 3, api.ErrSyntax)
	wantError(t, written+"\n\n", 3, api.ErrSyntax)
}

// P2.1: the words of a line.
func TestWords(t *testing.T) {
	for _, line := range []string{
		"node", "node ", " node", "7", "7 1/5", "node node 7", "Node 7", "NODE 7", "nod 7", "nodes 7", "node7", "node7 1/5", "1/5", "node 1/5",
		"node  7", " node 7", "node 7 ", "node 7 1/5 ", " node 7 1/5", "node 7  1/5", "node 7 1/5  1/5", "  ", "node\t7", "node 7\t1/5",
		"node 7\t", "node 7\r", "node 7\v1/5", "node\u00a07", "node 7\u00a01/5", "node 7 1/5;", "# node", "",
		"node 7 9", "node 7 1/5 9", "node 7 9 1/5", "node 7 node", "node 7 1/5 node 3 0/5", "node 7 1 / 5", "node 7 1/ 5", "node 7 1 /5",
		"node 7 15", "node 7 1/5/", "node 7 /1/5", "node 7 1//5", "node 7 1/5/5", "node 7 1/", "node 7 /5", "node 7 /", "node 7 //", "node 7 1\\5",
	} {
		wantError(t, line+"\nnode 3 0/5\n", 1, api.ErrSyntax)
		wantError(t, "node 7 1/5\n"+line+"\n", 2, api.ErrSyntax)
	}
}

// places are texts with a number at each place at which one can stand.
func places(number string) []string {
	return []string{"node " + number, "node 7 " + number + "/5", "node 7 1/" + number, "node 7 1/5 2/5 " + number + "/5", "node 7 1/5 2/5 3/" + number, "node " + number + " 1/5"}
}

// P2.1, R7: the digits of a number.
func TestNumbers(t *testing.T) {
	for _, number := range []string{
		"", "00", "01", "05", "000000", "000001", "0000000", "1000000", "9999999", "1234567", "0123456", "18446744073709551617", "-1", "+1", "-0", "1-", "x", "1x", "x1", "0x1", "1a", "1_0",
		"1.0", "1e1", "1,", "\x00", "1\x00", "/0", "/", "1:", ":", ";", "\xff", "1\xff", "\xb1", "é", "٣", "３", "1\u0301", "²", "𝟙", "\ufffd",
	} {
		for _, text := range places(number) {
			wantError(t, text, 1, api.ErrSyntax)
			wantError(t, text+"\n", 1, api.ErrSyntax)
		}
	}
	for _, number := range []string{"0", "1", "9", "10", "99", "100", "1000", "99999", "100000", "999999", "123456", "256", "16", "24"} {
		for i, text := range places(number) {
			if i > 0 || len(number) > 3 {
				wantError(t, text, 0, api.ErrGraph) // of this form, and therefore looked at as a graph
			}
		}
	}
	for id := range api.MaxID + 1 {
		wantParse(t, "node "+strconv.Itoa(id)+"\n", api.Graph{IDs: []int{id}, Ports: [][]api.Link{nil}})
	}
}

// P2.2: texts of this form whose graph is not valid.
func TestNotValid(t *testing.T) {
	for _, text := range []string{
		"node 1 0/1", "node 256", "node 999999", "node 7\nnode 7", "node 7 1/5", "node 7 1/5\nnode 3", "node 7\nnode 3 0/5", "node 7 1/5\nnode 3 0/4",
		"node 7 1/5\nnode 7 0/5", "node 7 1/5 1/5\nnode 3 0/5", "node 7 1/5 1/5\nnode 3 0/5 0/5", "node 7 1/0\nnode 3 0/0", "node 7 1/16\nnode 3 0/16",
		"node 7 2/5\nnode 3 0/5", "node 7 24/5\nnode 3 0/5", "node 7 999999/5\nnode 3 0/5", "node 7 1/999999\nnode 3 0/999999", "node 7 1/5\nnode 3 0/261",
	} {
		wantError(t, text, 0, api.ErrGraph)
		wantError(t, text+"\n", 0, api.ErrGraph)
	}
	var many strings.Builder
	for v := range api.MaxNodes {
		many.WriteString("node " + strconv.Itoa(v) + "\n")
	}
	if g, line, e := graphtext.Parse(many.String()); len(g.IDs) != api.MaxNodes || line != 0 || e != api.OK {
		t.Errorf("MaxNodes nodes: %d, %d, %d", len(g.IDs), line, e)
	}
	wantError(t, many.String()+"node 24", 0, api.ErrGraph)
}

// P2.2: texts of MaxText bytes and of more, and the order of the errors.
func TestLimit(t *testing.T) {
	long := "node 100" + strings.Repeat(" 0/1", (api.MaxText-8)/4)
	if len(long) != api.MaxText {
		t.Fatalf("%d bytes", len(long))
	}
	wantError(t, long, 0, api.ErrGraph)
	wantError(t, long+"\n", 0, api.ErrLimit)
	wantError(t, long[:len(long)-1]+"\n", 1, api.ErrSyntax) // the last word has no weight
	for _, bad := range []string{"\n", " ", "x", "node 1 0/1\n", "node 1\n"} {
		text := strings.Repeat(bad, api.MaxText)[:api.MaxText]
		wantError(t, text+"\n", 0, api.ErrLimit) // before ErrSyntax and before ErrGraph
		wantError(t, text+bad, 0, api.ErrLimit)
	}
	wantError(t, strings.Repeat("\n", api.MaxText), 1, api.ErrSyntax)
	wantError(t, strings.Repeat("x", api.MaxText), 1, api.ErrSyntax)
	wantError(t, strings.Repeat("node 1\n", 1000), 0, api.ErrGraph)
	wantError(t, strings.Repeat("node 1\n", 1000)+"\n", 1001, api.ErrSyntax) // before ErrGraph
	wantError(t, "node 1 0/1\nnode 07\n", 2, api.ErrSyntax)
	wantError(t, "node 256\nnode 256\nnode 3 0\n", 3, api.ErrSyntax)
	wantError(t, strings.Repeat("é", api.MaxText/2), 1, api.ErrSyntax) // bytes are counted, not runes
	wantError(t, strings.Repeat("é", api.MaxText/2+1), 0, api.ErrLimit)
}

// P2.3
func TestFormat(t *testing.T) {
	for text, g := range map[string]api.Graph{
		written:     example(),
		"node 0\n":  {IDs: []int{0}, Ports: [][]api.Link{{}}},
		"node 10\n": {IDs: []int{10}, Ports: [][]api.Link{nil}},
		"node 255 2/2 1/15\nnode 0 0/15\nnode 100 0/2\nnode 1\n": {IDs: []int{255, 0, 100, 1}, Ports: [][]api.Link{
			{{To: 2, Weight: 2}, {To: 1, Weight: 15}}, {{To: 0, Weight: 15}}, {{To: 0, Weight: 2}}, nil,
		}},
	} {
		if got, e := graphtext.Format(g); got != text || e != api.OK {
			t.Errorf("%q, %d instead of %q", got, e, text)
		}
	}
}

// P2.3: graphs that are not valid.
func TestFormatNotValid(t *testing.T) {
	change := func(f func(g *api.Graph)) api.Graph {
		g := example()
		f(&g)
		return g
	}
	for i, g := range []api.Graph{
		{},
		{IDs: []int{}, Ports: [][]api.Link{}},
		{IDs: []int{1}},
		{Ports: [][]api.Link{{}}},
		linked(api.MaxNodes+1, func(a, b int) bool { return false }),
		change(func(g *api.Graph) { g.IDs = g.IDs[:1] }),
		change(func(g *api.Graph) { g.IDs = append(g.IDs, 9) }),
		change(func(g *api.Graph) { g.Ports = g.Ports[:1] }),
		change(func(g *api.Graph) { g.IDs[0] = 3 }),
		change(func(g *api.Graph) { g.IDs[0] = -1 }),
		change(func(g *api.Graph) { g.IDs[1] = api.MaxID + 1 }),
		change(func(g *api.Graph) { g.Ports[0] = nil }),
		change(func(g *api.Graph) { g.Ports[0][0].Weight = 4 }),
		change(func(g *api.Graph) { g.Ports[0][0].Weight, g.Ports[1][0].Weight = 0, 0 }),
		change(func(g *api.Graph) { g.Ports[0][0].To = 0 }),
		change(func(g *api.Graph) { g.Ports[1][0].To = -1 }),
		change(func(g *api.Graph) { g.Ports[1][0].To = 1 << 62 }),
		change(func(g *api.Graph) { g.Ports[0] = append(g.Ports[0], g.Ports[0][0]) }),
	} {
		if got, e := graphtext.Format(g); got != "" || e != api.ErrGraph {
			t.Errorf("graph %d: %q, %d", i, got, e)
		}
	}
}

// P6 and the consequences: what is printed is read back as it was, for all graphs of up to four nodes and some of MaxNodes.
func TestReadBack(t *testing.T) {
	check := func(g api.Graph) {
		text, e := graphtext.Format(g)
		if e != api.OK || len(text) > api.MaxText {
			t.Fatalf("%v: %d bytes, %d", g, len(text), e)
		}
		wantParse(t, text, g)
	}
	for n := 1; n <= 4; n++ {
		for set := range 1 << (n * (n - 1) / 2) {
			check(linked(n, func(a, b int) bool { return set>>(b*(b-1)/2+a)&1 == 1 }))
		}
	}
	for divisor := 1; divisor <= api.MaxNodes; divisor++ {
		check(linked(api.MaxNodes, func(a, b int) bool { return (a*b+a+b)%divisor == 0 }))
	}
}

// line is the form of a line, as P2.1 says it.
var line = regexp.MustCompile(`^node (0|[1-9][0-9]{0,5})( (0|[1-9][0-9]{0,5})/(0|[1-9][0-9]{0,5}))*$`)

// wrong returns the number of the first line that does not have the form of P2.1, or 0.
func wrong(text string) int {
	if text == "" {
		return 1
	}
	for i, l := range strings.SplitAfter(text, "\n") {
		if l == "" && i > 0 {
			return 0 // nothing stands behind the last line feed
		}
		if !line.MatchString(strings.TrimSuffix(l, "\n")) {
			return i + 1
		}
	}
	return 0
}

// checkForm compares Parse with the form of P2.1.
func checkForm(t *testing.T, text string) {
	g, at, e := graphtext.Parse(text)
	switch bad := wrong(text); {
	case bad > 0:
		wantError(t, text, bad, api.ErrSyntax)
	case e == api.ErrGraph:
		wantError(t, text, 0, api.ErrGraph)
	case at != 0 || e != api.OK || !graph.Valid(g):
		t.Errorf("%q: %v, %d, %d", text, g, at, e)
	default:
		wantParse(t, text, g)
	}
}

// P2.1, P2.2: all texts that differ from ordinary ones in one byte, and some that differ in two.
func TestChangedBytes(t *testing.T) {
	bytes := []byte("\x00\t\n\r /0123579:nodeNX-\x7f\x80\xff")
	for _, text := range []string{written, "node 7 1/5\nnode 3 0/5", "node 10 2/10 1/1\nnode 0 0/1\nnode 255 0/10\n", "node 0\n", "node 123456 100000/999999\n", ""} {
		for at := range len(text) + 1 {
			checkForm(t, text[:at])
			checkForm(t, text[at:])
			if at < len(text) {
				checkForm(t, text[:at]+text[at+1:])
			}
			for b := range 256 {
				checkForm(t, text[:at]+string([]byte{byte(b)})+text[at:])
				if at < len(text) {
					checkForm(t, text[:at]+string([]byte{byte(b)})+text[at+1:])
				}
			}
			for _, a := range bytes {
				for _, b := range bytes {
					checkForm(t, text[:at]+string([]byte{a, b})+text[at:])
				}
			}
		}
	}
}

// R2, R6: no call changes its argument, results share no memory, and the next call returns the same.
func TestMemory(t *testing.T) {
	text := "node 7 1/5 2/1\nnode 3 0/5\nnode 4 0/1\n"
	first, _, _ := graphtext.Parse(text)
	second, _, _ := graphtext.Parse(text)
	for v := range first.Ports {
		first.IDs[v] = -1
		for port := range first.Ports[v] {
			first.Ports[v][port] = api.Link{To: -1, Weight: -1}
		}
		first.Ports[v] = append(first.Ports[v], api.Link{To: 9, Weight: 9}) // must not run into the next list
		if v+1 < len(first.Ports) && slices.Contains(first.Ports[v+1], api.Link{To: 9, Weight: 9}) {
			t.Error("two lists of ports share memory")
		}
	}
	wantParse(t, text, second)

	spare := []api.Link{{To: 1, Weight: 5}, {To: 77, Weight: -1}}
	g := api.Graph{IDs: []int{7, 3, 7}[:2], Ports: [][]api.Link{spare[:1], {{To: 0, Weight: 5}}, spare}[:2]}
	for range 2 {
		if got, e := graphtext.Format(g); got != written || e != api.OK {
			t.Errorf("%q, %d", got, e)
		}
	}
	if spare[0] != (api.Link{To: 1, Weight: 5}) || spare[1] != (api.Link{To: 77, Weight: -1}) || !equal(g, example()) {
		t.Error("Format changed its argument")
	}
}
