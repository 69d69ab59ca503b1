package redact

// Keys of an event that are looked at by their names.
const (
	keyContent  = "content"
	keyHashes   = "hashes"
	keySum      = "sha256"
	keyType     = "type"
	keyUnsigned = "unsigned"
)

// keepsAll is the kind whose content stays whole: no list could tell its keys.
const keepsAll = "m.room.create"

// kept are the keys that stay of an event's content, by its kind; of a kind that
// is not there none does.
func kept() map[string][]string {
	return map[string][]string{
		"m.room.member":       {"membership"},
		"m.room.power_levels": {"ban", "events", "events_default", "invite", "kick", "state_default", "users", "users_default"},
		"m.room.join_rules":   {"join_rule"},
		"m.room.server_acl":   {"allow", "deny"},
	}
}

// ofEvent are the keys that stay of an event itself.
func ofEvent() []string {
	return []string{
		"auth_events", keyContent, "depth", keyHashes, "origin_server_ts",
		"prev_events", "room_id", "sender", "state_key", keyType,
	}
}
