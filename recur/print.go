package recur

import (
	"strconv"
	"strings"

	"tryst/api"
	"tryst/value"
)

// partNames are the names of all parts, in the order in which they are written.
var partNames = [...]string{
	"FREQ", "INTERVAL", "COUNT", "UNTIL", "BYSECOND", "BYMINUTE", "BYHOUR", "BYDAY", "BYMONTHDAY", "BYYEARDAY", "BYWEEKNO", "BYMONTH",
	"BYSETPOS", "WKST",
}

// frequencyNames are the names of the frequencies, from Daily on.
var frequencyNames = [...]string{"DAILY", "WEEKLY", "MONTHLY", "YEARLY"}

// weekdayNames are the names of the weekdays.
var weekdayNames = [...]string{"SU", "MO", "TU", "WE", "TH", "FR", "SA"}

// Print returns the text of r.
func Print(r api.Rule) (string, api.Errno) {
	if !Formed(r) {
		return "", api.ErrRule
	}
	var parts []string
	for _, name := range partNames {
		if text := partText(r, name); text != "" {
			parts = append(parts, name+"="+text)
		}
	}
	return strings.Join(parts, ";"), api.OK
}

// partText writes the value of a part of a valid rule. It is empty if the part is left out.
func partText(r api.Rule, name string) string {
	switch name {
	case "FREQ":
		return frequencyNames[r.Freq-Daily]
	case "INTERVAL":
		return numberText(r.Interval, 1)
	case "COUNT":
		return numberText(r.Count, 0)
	case "UNTIL":
		return untilText(r)
	case "BYDAY":
		return listText(r.Day, weekdayText)
	case "WKST":
		return startText(r.Start)
	}
	for _, l := range numberLists(&r) {
		if l.name == name {
			return listText(*l.list, strconv.Itoa)
		}
	}
	return ""
}

// numberText writes n, unless it is what a rule without that part has.
func numberText(n, without int) string {
	if n == without {
		return ""
	}
	return strconv.Itoa(n)
}

// untilText writes the Until of r, if it has one.
func untilText(r api.Rule) string {
	if !r.Has {
		return ""
	}
	text, _ := value.Time(r.Until)
	return text
}

// startText writes the weekday on which weeks begin, unless it is what a rule without that part has.
func startText(day int) string {
	if day == monday {
		return ""
	}
	return weekdayNames[day]
}

// weekdayText writes an element of a list of weekdays.
func weekdayText(d api.Weekday) string {
	return numberText(d.Nth, 0) + weekdayNames[d.Day]
}

// listText writes all elements of a list.
func listText[T any](list []T, text func(T) string) string {
	var texts []string
	for _, x := range list {
		texts = append(texts, text(x))
	}
	return strings.Join(texts, ",")
}
