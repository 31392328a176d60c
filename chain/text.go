package chain

import (
	"strconv"
	"strings"

	"licit/api"
)

// stepNames are the words for the kinds of steps.
var stepNames = [...]string{
	api.StepCompile: "compile",
	api.StepArchive: "archive",
	api.StepShare:   "share",
	api.StepLink:    "link",
	api.StepRun:     "run",
	api.StepPatch:   "patch",
	api.StepCopy:    "copy",
	api.StepInstall: "install",
}

// routeNames are the words for the routes of hops.
var routeNames = [...]string{api.RouteIn: "in", api.RouteBy: "by", api.RouteList: "list"}

// blank stands between the words of a line.
const blank = " "

// text returns the text of a chain whose hops are flows of the steps of a record.
func text(r api.Record, c api.Chain) string {
	var text strings.Builder
	write := func(words ...string) { text.WriteString(strings.Join(words, blank) + "\n") }
	write(c.Line.Path, "line", strconv.Itoa(c.Line.N))
	if len(c.Hops) == 0 {
		write("recipe")
	}
	for _, h := range c.Hops {
		write("step", strconv.Itoa(h.Step), stepNames[r[h.Step].Kind], routeNames[h.Route], segmentText(h.To))
	}
	return text.String()
}

// segmentText returns the text of a segment.
func segmentText(s api.Segment) string {
	name := s.Path
	if s.Member != "" {
		name += "!" + s.Member
	}
	switch s.Kind {
	case api.SegmentLine:
		return name + " line " + strconv.Itoa(s.Index)
	case api.SegmentSection:
		return name + " section " + strconv.Itoa(s.Index)
	case api.SegmentList:
		return name + " list"
	}
	return name + " file"
}
