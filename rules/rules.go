// Package rules holds tests alone: they look at whether the program's text keeps to the rules of shared/LANGUAGE.md.
package rules
