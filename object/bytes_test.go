package object

import (
	"strings"
	"testing"

	"licit/api"
)

// exampleBytes are the bytes of the object of the chapter.
const exampleBytes = "6:object,1;1:f,1;1;1;2;4:" + zeros + ",1;0;0;"

// P10.3: the bytes of objects.
func TestEncode(t *testing.T) {
	for _, x := range []struct {
		o    api.Object
		want string
	}{
		{example(), exampleBytes},
		{api.Object{}, "6:object,0;0;"},
		{api.Object{Symbols: []api.Symbol{{Name: "e", Mode: api.Extern, Section: -1}, {Name: "p", Section: -1}}}, "6:object,2;1:e,3;0;1:p,0;0;0;"},
		{full(), "6:object,5;4:main,1;3;1:e,3;0;1:d,2;1;6:unused,0;0;1:h,0;2;3;2;0:,0;1;2:\x00\x00,0;1;14:\x01" + zeros + zeros + "x" + zeros + ",3;1;4;5;1;10;4;"},
	} {
		text, e := Encode(x.o)
		if e != api.OK || text != x.want {
			t.Errorf("%v %q", e, text)
		}
		if o, e := Decode(x.want); e != api.OK || !same(o, x.o) {
			t.Error(e, o)
		}
	}
}

// P10.3: objects of MaxData bytes, and of one more.
func TestLargeObjects(t *testing.T) {
	o := sections(8, strings.Repeat("x", api.MaxCode-100))
	o.Symbols = append(o.Symbols, api.Symbol{Name: "last", Section: 8})
	o.Sections = append(o.Sections, api.Section{Kind: api.SectionCode, Data: "xx"})
	text, e := Encode(o)
	if e != api.OK {
		t.Fatal(e)
	}
	// two bytes more for the length of three digits
	missing := api.MaxData - len(text) - 2
	o.Sections[8].Data += strings.Repeat("x", missing)
	text, e = Encode(o)
	if e != api.OK || len(text) != api.MaxData || len(o.Sections[8].Data) < 100 || len(o.Sections[8].Data) > 999 {
		t.Fatal(e, len(text), len(o.Sections[8].Data))
	}
	if back, e := Decode(text); e != api.OK || !same(o, back) {
		t.Error(e)
	}
	o.Sections[8].Data += "x"
	if text, e := Encode(o); e != api.ErrTooLarge || text != "" || Check(o) != api.OK {
		t.Error(e, len(text))
	}
	// its bytes, written by hand, are those of a valid object, but too many
	size := len(o.Sections[8].Data)
	large := strings.Replace(text, digits(size-1)+":"+strings.Repeat("x", size-1)+",0;", digits(size)+":"+strings.Repeat("x", size)+",0;", 1)
	if back, e := Decode(large); len(large) != api.MaxData+1 || e != api.ErrCorrupt || !isEmpty(back) {
		t.Error(e, len(large))
	}
	// ErrArg comes first
	o.Symbols[0].Name = "?"
	if _, e := Encode(o); e != api.ErrArg {
		t.Error(e)
	}
}

// digits returns a number of three digits as text.
func digits(n int) string {
	return string([]byte{byte('0' + n/100), byte('0' + n/10%10), byte('0' + n%10)})
}

// P10.3: what are the bytes of no valid object.
func TestNoObject(t *testing.T) {
	for i, text := range []string{
		"", "object", "6:object,", "6:object,0;", "6:object,0;0", "6:object,0;0;0;", "6:object,0;0;x", "7:archive,0;", "7:object ,0;0;", "6:Object,0;0;", "0:,0;0;", "6;0;0;",
		// not written as codec writes it
		"06:object,0;0;", "6:object,00;0;", "6:object,0;00;", "6:object, 0;0;", "6:object,-1;0;",
		// conditions that do not hold
		"6:object,1;1:F,0;0;0;", "6:object,1;0:,0;0;0;", "6:object,1;3:let,0;0;0;", "6:object,2;1:f,0;0;1:f,0;0;0;", "6:object,1;33:" + strings.Repeat("n", 33) + ",0;0;0;",
		"6:object,1;1:f,4;0;0;", "6:object,1;1:f,1;0;0;", "6:object,1;1:f,2;0;0;", "6:object,1;1:f,0;1;0;", "6:object,1;1:f,3;1;1;2;0:,0;", "6:object,1;1:f,0;0;1;2;0:,0;", "6:object,0;1;2;0:,0;", "6:object,2;1:f,0;1;1:g,0;1;1;2;0:,0;", "6:object,1;1:f,0;2;1;2;0:,0;", "6:object,1;1:f,0;129;1;2;0:,0;", "6:object,1;1:f,0;281474976710656;1;2;0:,0;",
		"6:object,1;1:f,0;1;1;0;0:,0;", "6:object,1;1:f,0;1;1;3;0:,0;", "6:object,1;1:f,0;1;1;1;0:,0;", "6:object,1;1:f,0;1;1;1;1:x,0;", "6:object,1;1:f,0;1;1;2;2:xx,0;", "6:object,1;1:f,0;1;1;2;8196:" + strings.Repeat("x", 8196) + ",0;", "6:object,1;1:f,0;1;1;1;8193:" + strings.Repeat("x", 8193) + ",0;",
		"6:object,1;1:f,0;1;1;2;4:" + zeros + ",1;0;1;", "6:object,1;1:f,0;1;1;2;4:" + zeros + ",1;1;0;", "6:object,1;1:f,0;1;1;2;4:" + zeros + ",2;0;0;0;0;", "6:object,1;1:f,0;1;1;2;4:" + zeros + ",1;0;", "6:object,1;1:f,0;1;1;2;4:" + zeros + ",0;0;0;", "6:object,1;1:f,0;1;1;2;4:abcd,1;0;0;", "6:object,1;1:f,0;1;1;2;8:" + zeros + zeros + ",2;4;0;0;0;", "6:object,1;1:f,0;1;1;2;4:" + zeros + ",2049;0;0;",
		"6:object,0;1;2;4:" + zeros + ",1;0;0;", "6:object,129;" + strings.Repeat("1:f,0;0;", 129) + "0;", "6:object,0;129;" + strings.Repeat("2;0:,0;", 129),
	} {
		if o, e := Decode(text); e != api.ErrCorrupt || !isEmpty(o) {
			t.Errorf("%d %q %v", i, text, e)
		}
	}
	most := sections(api.MaxSections, "")
	text, e := Encode(most)
	if back, e2 := Decode(text); e != api.OK || e2 != api.OK || !same(most, back) {
		t.Error(e, e2)
	}
	// one symbol more, and one section more
	var list []string
	for _, s := range symbols(api.MaxSymbols + 1) {
		list = append(list, digits(len(s.Name))[2:]+":"+s.Name+",0;0;")
	}
	if _, e := Decode("6:object,128;" + strings.Join(list[:128], "") + "0;"); e != api.OK {
		t.Error(e)
	}
	if _, e := Decode("6:object,129;" + strings.Join(list, "") + "0;"); e != api.ErrCorrupt {
		t.Error(e)
	}
}

// P10.3 and P10.4: bytes that are cut off, or followed by others.
func TestCutOff(t *testing.T) {
	object, _ := Encode(full())
	archive, e := Pack([]api.Member{{Name: "a/b", Object: full()}, {Name: "c", Object: example()}})
	if e != api.OK {
		t.Fatal(e)
	}
	for n := range object {
		if o, e := Decode(object[:n]); e != api.ErrCorrupt || !isEmpty(o) {
			t.Error(n, e)
		}
	}
	for n := range archive {
		if l, e := Unpack(archive[:n]); e != api.ErrCorrupt || len(l) != 0 {
			t.Error(n, e)
		}
	}
	for _, more := range []string{"x", "0;", "\x00", ",", "0:,", "\n", object, archive} {
		if o, e := Decode(object + more); e != api.ErrCorrupt || !isEmpty(o) {
			t.Error(more, e)
		}
		if o, e := Decode(more + object); e != api.ErrCorrupt || !isEmpty(o) {
			t.Error(more, e)
		}
		if l, e := Unpack(archive + more); e != api.ErrCorrupt || len(l) != 0 {
			t.Error(more, e)
		}
	}
}

// P10.4: the bytes of archives.
func TestPack(t *testing.T) {
	for _, x := range []struct {
		l    []api.Member
		want string
	}{
		{nil, "7:archive,0;"},
		{[]api.Member{{Name: "x.o"}}, "7:archive,1;3:x.o,13:6:object,0;0;,"},
		{[]api.Member{{Name: "b", Object: example()}, {Name: "a/c", Object: api.Object{}}}, "7:archive,2;1:b,36:" + exampleBytes + ",3:a/c,13:6:object,0;0;,"},
	} {
		text, e := Pack(x.l)
		if e != api.OK || text != x.want {
			t.Errorf("%v %q", e, text)
		}
		if l, e := Unpack(x.want); e != api.OK || !sameMembers(l, x.l) {
			t.Error(e, l)
		}
	}
}

// sameMembers says whether two archives are equal.
func sameMembers(a, b []api.Member) bool {
	if len(a) != len(b) {
		return false
	}
	for i := range a {
		if a[i].Name != b[i].Name || !same(a[i].Object, b[i].Object) {
			return false
		}
	}
	return true
}

// members returns n members with an object.
func members(n int, o api.Object) []api.Member {
	var l []api.Member
	for i := range n {
		l = append(l, api.Member{Name: "m" + digits(i), Object: o})
	}
	return l
}

// P10.4: each condition of a valid archive, and its opposite.
func TestArchives(t *testing.T) {
	bad := example()
	bad.Symbols[0].Mode = api.Extern
	named := func(names ...string) []api.Member {
		l := members(len(names), example())
		for i, name := range names {
			l[i].Name = name
		}
		return l
	}
	for i, x := range []struct {
		l     []api.Member
		valid bool
	}{
		{members(api.MaxFiles, example()), true}, {members(api.MaxFiles+1, example()), false}, {members(api.MaxFiles+1, api.Object{}), false},
		{named("b", "a", "a/b", "a-1", "1/2/3/4/5/6/7/8"), true}, {named("a", "a/b/c", "a/b"), true}, {named("a", "a"), false}, {named("a", "b", "a"), false}, {named(""), false}, {named("A"), false}, {named("a//b"), false}, {named("a/"), false}, {named("1/2/3/4/5/6/7/8/9"), false}, {named("a", "?"), false}, {named(strings.Repeat("n", 33)), false}, {named("a!b"), false},
		{[]api.Member{{Name: "a", Object: example()}, {Name: "b", Object: bad}}, false}, {[]api.Member{{Name: "a", Object: anyObject()}}, false},
	} {
		text, e := Pack(x.l)
		if x.valid && e != api.OK || !x.valid && (e != api.ErrArg || text != "") {
			t.Error(i, e)
		}
		if l, e := Unpack(text); x.valid && (e != api.OK || !sameMembers(l, x.l)) {
			t.Error(i, e)
		}
	}
}

// P10.4: what are the bytes of no valid archive.
func TestNoArchive(t *testing.T) {
	empty := "13:6:object,0;0;,"
	for i, text := range []string{
		"", "archive", "7:archive,", "7:archive,0", "7:archive,0;0;", "7:archive,1;", "6:object,0;0;", exampleBytes, "7:archivE,0;", "6:archiv,0;", "07:archive,0;", "7:archive,00;", "7:archive,65;" + strings.Repeat("1:a,"+empty, 65),
		"7:archive,2;1:a," + empty + "1:a," + empty, "7:archive,1;0:," + empty, "7:archive,1;1:A," + empty, "7:archive,1;2:a/," + empty, "7:archive,2;1:a," + empty, "7:archive,0;1:a," + empty, "7:archive,1;129:" + strings.Repeat("a/", 64) + "a," + empty,
		"7:archive,1;1:a,6:object,0;0;", "7:archive,1;1:a,0:,", "7:archive,1;1:a,14:6:object,0;0; ,", "7:archive,1;1:a,12:6:object,0;0,", "7:archive,1;1:a,12:7:archive,0;,", "7:archive,1;1:a,21:6:object,1;1:F,0;0;0;,", "7:archive,1;1:a," + empty + " ", "7:archive,1;1:a,1:x,", "7:archive,2;1:a,0:,1:b," + empty,
	} {
		if l, e := Unpack(text); e != api.ErrCorrupt || len(l) != 0 {
			t.Errorf("%d %q %v", i, text, e)
		}
	}
	if l, e := Unpack("7:archive,1;1:a," + empty); e != api.OK || len(l) != 1 || l[0].Name != "a" || !isEmpty(l[0].Object) {
		t.Error(e, l)
	}
}

// P10.4: archives of MaxData bytes, and of one more.
func TestLargeArchives(t *testing.T) {
	large := sections(4, strings.Repeat("x", api.MaxCode))
	l := []api.Member{{Name: "a", Object: large}, {Name: "b", Object: sections(3, strings.Repeat("x", api.MaxCode))}, {Name: "c", Object: sections(1, "")}}
	last := &l[2].Object.Sections[0]
	last.Kind, last.Data = api.SectionCode, strings.Repeat("x", 1000)
	text, e := Pack(l)
	if e != api.OK {
		t.Fatal(e)
	}
	last.Data += strings.Repeat("x", api.MaxData-len(text))
	text, e = Pack(l)
	if e != api.OK || len(text) != api.MaxData || len(last.Data) > api.MaxCode {
		t.Fatal(e, len(text), len(last.Data))
	}
	if back, e := Unpack(text); e != api.OK || !sameMembers(l, back) {
		t.Error(e)
	}
	// a byte more, in the last name
	l[2].Name = "cc"
	if text, e := Pack(l); e != api.ErrTooLarge || text != "" {
		t.Error(e)
	}
	if back, e := Unpack(strings.Replace(text, ",1:c,", ",2:cc,", 1)); e != api.ErrCorrupt || len(back) != 0 {
		t.Error(e)
	}
	// objects that are too large themselves
	many := sections(9, strings.Repeat("x", api.MaxCode))
	if _, e := Pack([]api.Member{{Name: "a", Object: many}}); e != api.ErrTooLarge {
		t.Error(e)
	}
	if _, e := Pack(members(3, large)); e != api.ErrTooLarge {
		t.Error(e)
	}
	// ErrArg comes first
	if _, e := Pack([]api.Member{{Name: "a", Object: many}, {Name: "a", Object: many}}); e != api.ErrArg {
		t.Error(e)
	}
	if _, e := Pack([]api.Member{{Name: "a", Object: many}, {Name: "b", Object: anyObject()}}); e != api.ErrArg {
		t.Error(e)
	}
}
