package include

import (
	"slices"

	"bringup/api"
	"bringup/source"
)

// loader goes through definitions, file by file as they are included.
type loader struct {
	files       []api.File
	names       []string        // of the files that have been read, in this order
	spans       map[string]span // of the files that have been read, by their names
	definitions []api.Definition
}

// span says where the definitions of a file are, with those of the files that it includes. One that is open is still being gone through.
type span struct {
	open     bool
	from, to int
}

// include adds the definitions of the file that is named at a place.
func (l *loader) include(name string, place api.Position) (api.Position, api.Errno) {
	s, known := l.spans[name]
	i := seek(l.files, name)
	switch {
	case i < 0:
		return place, api.ErrUnknown
	case s.open:
		return place, api.ErrLoop
	case known:
		return l.repeat(s)
	}
	return l.read(i)
}

// read adds the definitions of the file with an index, which has not been read before.
func (l *loader) read(i int) (api.Position, api.Errno) {
	definitions, place, e := source.Read(l.files[i].Text, i)
	if e != api.OK {
		return place, e
	}
	name, from := l.files[i].Name, len(l.definitions)
	l.names = append(l.names, name)
	l.spans[name] = span{open: true}
	for _, d := range definitions {
		if place, e := l.add(d); e != api.OK {
			return place, e
		}
	}
	l.spans[name] = span{from: from, to: len(l.definitions)}
	return api.Position{}, api.OK
}

// add adds a definition, or what it includes.
func (l *loader) add(d api.Definition) (api.Position, api.Errno) {
	if d.Kind == api.DefInclude {
		return l.include(d.Name, d.Position)
	}
	if len(l.definitions) >= api.MaxTokens {
		return d.Position, api.ErrLimit
	}
	l.definitions = append(l.definitions, d)
	return api.Position{}, api.OK
}

// repeat adds the definitions of a file once more. Were its includes gone through again, a few files that include each other often would take for ever.
func (l *loader) repeat(s span) (api.Position, api.Errno) {
	for _, d := range l.definitions[s.from:s.to] {
		if place, e := l.add(copied(d)); e != api.OK {
			return place, e
		}
	}
	return api.Position{}, api.OK
}

// copied returns a definition that shares no memory with another one.
func copied(d api.Definition) api.Definition {
	d.Parts = slices.Clone(d.Parts)
	for i, p := range d.Parts {
		d.Parts[i].Cells = slices.Clone(p.Cells)
	}
	return d
}
