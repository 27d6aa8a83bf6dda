package tests

import (
	"reflect"
	"sort"
	"testing"
)

// copiedBy copies a value and all lists in it; lists are looked at through choose first.
func copiedBy(v reflect.Value, choose func(reflect.Value) reflect.Value) reflect.Value {
	out := reflect.New(v.Type()).Elem()
	switch v.Kind() {
	case reflect.Slice:
		v = choose(v)
		if v.IsNil() {
			return out
		}
		out.Set(reflect.MakeSlice(v.Type(), v.Len(), v.Cap()))
		for i := 0; i < v.Len(); i++ {
			out.Index(i).Set(copiedBy(v.Index(i), choose))
		}
	case reflect.Struct:
		for i := 0; i < v.NumField(); i++ {
			out.Field(i).Set(copiedBy(v.Field(i), choose))
		}
	default:
		out.Set(v)
	}
	return out
}

func copyOf[T any](v T) T {
	asItIs := func(list reflect.Value) reflect.Value { return list }
	return copiedBy(reflect.ValueOf(v), asItIs).Interface().(T)
}

// wholeOf copies a value with its lists as long as their memory, so that a write behind the end of a list shows too.
func wholeOf[T any](v T) T {
	whole := func(list reflect.Value) reflect.Value { return list.Slice(0, list.Cap()) }
	return copiedBy(reflect.ValueOf(v), whole).Interface().(T)
}

// roomyOf copies a value with room behind the end of each list, where something stands already.
func roomyOf[T any](v T) T {
	roomy := func(list reflect.Value) reflect.Value {
		length := list.Len()
		for i := 0; i < 3; i++ {
			more := reflect.New(list.Type().Elem()).Elem()
			eachNumber(more, func(n reflect.Value) { setNumber(n, 77) })
			list = reflect.Append(list, more)
		}
		return list.Slice(0, length)
	}
	out := reflect.New(reflect.TypeOf(v)).Elem()
	out.Set(copiedBy(reflect.ValueOf(v), func(list reflect.Value) reflect.Value { return list }))
	eachList(out, func(list reflect.Value) { list.Set(roomy(list)) })
	return out.Interface().(T)
}

// sameAnswers: an empty list may be nil or not.
func sameAnswers[T any](a T, b T) bool {
	emptyIsNil := func(list reflect.Value) reflect.Value {
		if list.Len() == 0 {
			return reflect.Zero(list.Type())
		}
		return list
	}
	return reflect.DeepEqual(copiedBy(reflect.ValueOf(a), emptyIsNil).Interface(), copiedBy(reflect.ValueOf(b), emptyIsNil).Interface())
}

// eachList visits all lists of a value, the inner ones first.
func eachList(v reflect.Value, visit func(reflect.Value)) {
	switch v.Kind() {
	case reflect.Slice:
		for i := 0; i < v.Len() && hasLists(v.Type().Elem()); i++ {
			eachList(v.Index(i), visit)
		}
		visit(v)
	case reflect.Struct:
		for i := 0; i < v.NumField(); i++ {
			eachList(v.Field(i), visit)
		}
	}
}

func hasLists(t reflect.Type) bool {
	return t.Kind() == reflect.Slice || t.Kind() == reflect.Struct
}

func eachNumber(v reflect.Value, visit func(reflect.Value)) {
	switch v.Kind() {
	case reflect.Slice:
		for i := 0; i < v.Len(); i++ {
			eachNumber(v.Index(i), visit)
		}
	case reflect.Struct:
		for i := 0; i < v.NumField(); i++ {
			eachNumber(v.Field(i), visit)
		}
	case reflect.Int64, reflect.Uint32:
		visit(v)
	}
}

func numberIn(v reflect.Value) int64 {
	if v.Kind() == reflect.Int64 {
		return v.Int()
	}
	return int64(v.Uint())
}

func setNumber(v reflect.Value, n int64) {
	if v.Kind() == reflect.Int64 {
		v.SetInt(n)
	} else {
		v.SetUint(uint64(uint32(n)))
	}
}

// span is the memory of a list, the room behind its end too.
type span struct {
	from uintptr
	to   uintptr
}

func spansOf(v any) []span {
	var spans []span
	eachList(reflect.ValueOf(v), func(list reflect.Value) {
		if list.Cap() > 0 {
			size := uintptr(list.Cap()) * list.Type().Elem().Size()
			spans = append(spans, span{list.Pointer(), list.Pointer() + size})
		}
	})
	return spans
}

// checkOwnMemory: no two lists of an answer share memory, and none shares it with an argument.
func checkOwnMemory(t *testing.T, what string, answer any, arguments ...any) {
	t.Helper()
	own := spansOf(answer)
	sort.Slice(own, func(i, j int) bool { return own[i].from < own[j].from })
	for i := 1; i < len(own); i++ {
		if own[i].from < own[i-1].to {
			t.Error(what, "has two lists that share memory")
		}
	}
	for _, argument := range arguments {
		for _, a := range spansOf(argument) {
			for _, b := range own {
				if a.from < b.to && b.from < a.to {
					t.Error(what, "shares memory with an argument")
				}
			}
		}
	}
}

func TestMemoryHelpersSeeWhatIsShared(t *testing.T) {
	list := []int64{1, 2, 3, 4}
	before := wholeOf(list[:2])
	list[3] = 9
	if reflect.DeepEqual(before, wholeOf(list[:2])) {
		t.Error("a write behind the end is not seen")
	}
	if r := roomyOf([][]int64{{1}, nil}); cap(r) < 5 || cap(r[0]) < 4 || r[0][:2][1] != 77 || len(r[1]) != 0 || len(r) != 2 {
		t.Error("no room", r)
	}
	if !sameAnswers([][]int64{nil, {1}}, [][]int64{{}, {1}}) || sameAnswers([][]int64{nil}, [][]int64{{0}}) {
		t.Error("empty lists")
	}
	quiet := &testing.T{}
	checkOwnMemory(quiet, "pieces", [][]int64{list[:1], list[2:]})
	if !quiet.Failed() {
		t.Error("two pieces of one list are not seen")
	}
	quiet = &testing.T{}
	checkOwnMemory(quiet, "argument", list[3:], [][]int64{list[:2]})
	if !quiet.Failed() {
		t.Error("a piece of an argument is not seen")
	}
}
