// Package fleets: which fleets are in order, which of a fleet's releases get along, and which moves of its services are safe.
package fleets

import (
	"rollout/api"
	"rollout/schemas"
)

// InOrder tells whether a fleet is in order.
func InOrder(f api.Fleet) bool {
	return schemasInOrder(f.Schemas) && topicsInOrder(f.Topics) && servicesInOrder(f)
}

func schemasInOrder(texts []string) bool {
	if len(texts) > api.MaxSchemas {
		return false
	}
	for _, text := range texts {
		_, ok := schemas.Parse(text)
		if !ok {
			return false
		}
	}
	return true
}

func topicsInOrder(topics []api.Topic) bool {
	if len(topics) > api.MaxTopics {
		return false
	}
	for _, topic := range topics {
		if topic.Keep < 0 || topic.Keep > api.MaxKeep {
			return false
		}
	}
	return true
}

func servicesInOrder(f api.Fleet) bool {
	if len(f.Services) < 1 || len(f.Services) > api.MaxServices {
		return false
	}
	for _, service := range f.Services {
		if !serviceInOrder(f, service) {
			return false
		}
	}
	return true
}

func serviceInOrder(f api.Fleet, service api.Service) bool {
	count := len(service.Releases)
	if service.Size < 1 || service.Size > api.MaxSize || count < 1 || count > api.MaxReleases {
		return false
	}
	if !IsNumber(service.Now, count) || !IsNumber(service.Want, count) {
		return false
	}
	for _, release := range service.Releases {
		if !pinsInOrder(f, release.Pins) {
			return false
		}
	}
	return true
}

func pinsInOrder(f api.Fleet, pins []api.Pin) bool {
	if len(pins) > api.MaxPins {
		return false
	}
	for k, pin := range pins {
		if !pinInOrder(f, pin) || isForTopic(pins[:k], pin.Topic) {
			return false
		}
	}
	return true
}

func pinInOrder(f api.Fleet, pin api.Pin) bool {
	count := len(f.Schemas)
	writes := pin.Writes == -1 || IsNumber(pin.Writes, count)
	reads := pin.Reads == -1 || IsNumber(pin.Reads, count)
	return IsNumber(pin.Topic, len(f.Topics)) && writes && reads
}

// isForTopic tells whether one of the pins is for a topic.
func isForTopic(pins []api.Pin, topic int) bool {
	for _, pin := range pins {
		if pin.Topic == topic {
			return true
		}
	}
	return false
}

// IsNumber tells whether n is the number of one of so many things.
func IsNumber(n int, count int) bool {
	return n >= 0 && n < count
}
