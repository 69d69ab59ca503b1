// Package layout has no code: its tests hold the whole program against the map
// of layers and the rules of the language that a compiler does not look at.
package layout
