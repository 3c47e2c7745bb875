package entity

// loose is what a name that needs no ; stands for; empty, if it is none.
func loose(name string) string {
	switch name {
	case "amp", "AMP":
		return "&"
	case "lt", "LT":
		return "<"
	case "gt", "GT":
		return ">"
	case "quot", "QUOT":
		return `"`
	case "nbsp":
		return "\u00a0"
	case "shy":
		return "\u00ad"
	case "not":
		return "\u00ac"
	case "reg":
		return "\u00ae"
	case "copy":
		return "\u00a9"
	case "para":
		return "\u00b6"
	case "sect":
		return "\u00a7"
	case "yen":
		return "\u00a5"
	case "deg":
		return "\u00b0"
	case "times":
		return "\u00d7"
	case "eacute":
		return "\u00e9"
	case "ouml":
		return "\u00f6"
	case "szlig":
		return "\u00df"
	}
	return ""
}

// strict is what a name that needs a ; stands for; empty, if it is none.
func strict(name string) string {
	switch name {
	case "Tab":
		return "\t"
	case "NewLine":
		return "\n"
	case "notin":
		return "\u2209"
	case "nvlt":
		return "<\u20d2"
	case "nvgt":
		return ">\u20d2"
	case "zwnj":
		return "\u200c"
	case "zwj":
		return "\u200d"
	case "ZeroWidthSpace":
		return "\u200b"
	case "NoBreak":
		return "\u2060"
	case "fjlig":
		return "fj"
	case "copysr":
		return "\u2117"
	case "timesbar":
		return "\u2a31"
	}
	return mark(name)
}

// mark is the one of strict's signs that can be seen and has one byte; empty,
// if the name is of none.
func mark(name string) string {
	switch name {
	case "apos":
		return "'"
	case "colon":
		return ":"
	case "sol":
		return "/"
	case "bsol":
		return `\`
	case "quest":
		return "?"
	case "num":
		return "#"
	case "percnt":
		return "%"
	case "commat":
		return "@"
	case "equals":
		return "="
	case "plus":
		return "+"
	case "comma":
		return ","
	case "period":
		return "."
	case "semi":
		return ";"
	case "excl":
		return "!"
	case "dollar":
		return "$"
	case "ast":
		return "*"
	case "lowbar":
		return "_"
	case "grave":
		return "`"
	case "Hat":
		return "^"
	case "lpar":
		return "("
	case "rpar":
		return ")"
	case "lsqb":
		return "["
	case "rsqb":
		return "]"
	case "lcub":
		return "{"
	case "rcub":
		return "}"
	case "verbar":
		return "|"
	}
	return ""
}
