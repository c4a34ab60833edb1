package plays

import (
	"rollout/api"
	"rollout/fleets"
)

// topic holds the records that are in it, in the order in which they were written.
type topic struct {
	keep    int
	records []Record
}

// Record is a value in a topic.
type Record struct {
	Schema string // the one by which it was written
	Data   string
	time   int // when it was written
}

// forget lets those records go that have been there as long as the topic keeps them.
func (t *topic) forget(time int) {
	if t.keep <= 0 {
		return
	}
	left := []Record{}
	for _, record := range t.records {
		if time-record.time < t.keep {
			left = append(left, record)
		}
	}
	t.records = left
}

// HasTopic tells whether there is such a topic.
func (p *Play) HasTopic(topic int) bool {
	return fleets.IsNumber(topic, len(p.topics))
}

// Write puts a record of these data, by this schema, into a topic, behind all others; false, if there is no room for it.
func (p *Play) Write(topic int, schema string, data string) bool {
	if !p.HasTopic(topic) || len(p.topics[topic].records) >= api.MaxRecords {
		return false
	}
	p.topics[topic].records = append(p.topics[topic].records, Record{Schema: schema, Data: data, time: p.time})
	return true
}

// Records answers the records in a topic, to be looked at alone.
func (p *Play) Records(topic int) []Record {
	if !p.HasTopic(topic) {
		return nil
	}
	return p.topics[topic].records
}
