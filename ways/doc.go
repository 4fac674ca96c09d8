// Package ways has no code: its tests hold which of the language's ways each layer leans on.
package ways
