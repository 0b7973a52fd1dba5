package library

// Checksum gives the tests the checksum of records.
func Checksum(parts ...[]byte) uint32 {
	return checksum(parts...)
}
