package object

import (
	"strings"

	"bursar/api"
	"bursar/key"
	"bursar/label"
)

// letters: of the kinds, in the order of their numbers.
const letters = "nqlob"

// Key tells the store's key of a record of a kind; Unkey reads it.
func Key(kind int, path, name string) (string, api.Errno) {
	if kind < 0 || kind >= len(letters) {
		return "", api.ErrArg
	}
	if label.Path(path) != api.OK {
		return "", api.ErrPath
	}
	if !nameOf(kind, name) {
		return "", api.ErrName
	}
	return key.Make(letters[kind:kind+1], path, name)
}

// nameOf: namespaces have no name beside their path.
func nameOf(kind int, name string) bool {
	if kind == api.KindNode {
		return name == ""
	}
	return label.Name(name)
}

// Unkey takes just what Key answers: so a first part of no letter or several falls out too.
func Unkey(k string) (int, string, string, api.Errno) {
	parts, errno := key.Split(k)
	if errno != api.OK || len(parts) != 3 {
		return 0, "", "", api.ErrBad
	}
	kind, path, name := strings.Index(letters, parts[0]), parts[1], parts[2]
	again, errno := Key(kind, path, name)
	if errno != api.OK || again != k {
		return 0, "", "", api.ErrBad
	}
	return kind, path, name, api.OK
}
