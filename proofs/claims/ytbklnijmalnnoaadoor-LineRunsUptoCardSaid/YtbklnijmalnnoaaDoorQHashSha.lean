/- Layer 4's fingerprint over lists: the first values and constants out of primes' roots, the rounds, the whole; and what it is of "abc" (no program is read here). -/
import Derived.Lib.Strings
import Derived.KernelRfl
set_option linter.all false
set_option maxRecDepth 100000
set_option maxHeartbeats 25600000
namespace Go.Proofs.YtbklnijmalnnoaaDoor.HS
open Go

/- the first values and the constants -/
def isFresh (l : List Nat) (p : Nat) : Bool := l.all fun q => p % q != 0
/-- The first n primes, from p on, in at most the given steps. -/
def primesGo : Nat → Nat → Nat → List Nat → List Nat
  | 0, _, _, l => l
  | fuel + 1, n, p, l => if n ≤ l.length then l else primesGo fuel n (p + 1) (if isFresh l p = true then l ++ [p] else l)
def primesN (n : Nat) : List Nat := primesGo 1000 n 2 []
def aboveN (x p k : Nat) : Bool := decide (p * 2 ^ (32 * k) < x ^ k)
def bisect : Nat → Nat → Nat → Nat → Nat → Nat
  | 0, _, _, low, _ => low
  | fuel + 1, p, k, low, high => if high - low ≤ 1 then low else if aboveN ((low + high) / 2) p k = true then bisect fuel p k low ((low + high) / 2) else bisect fuel p k ((low + high) / 2) high
def fracN (p k : Nat) : Nat := bisect 64 p k 0 (32 * 4294967296) % 4294967296
def firstN : List Nat := (primesN 8).map fun p => fracN p 2
def roundN : List Nat := (primesN 64).map fun p => fracN p 3
theorem first_is : firstN = [0x6a09e667, 0xbb67ae85, 0x3c6ef372, 0xa54ff53a, 0x510e527f, 0x9b05688c, 0x1f83d9ab, 0x5be0cd19] := by decide +kernel
def roundK : List Nat := [0x428a2f98, 0x71374491, 0xb5c0fbcf, 0xe9b5dba5, 0x3956c25b, 0x59f111f1, 0x923f82a4, 0xab1c5ed5,
  0xd807aa98, 0x12835b01, 0x243185be, 0x550c7dc3, 0x72be5d74, 0x80deb1fe, 0x9bdc06a7, 0xc19bf174,
  0xe49b69c1, 0xefbe4786, 0x0fc19dc6, 0x240ca1cc, 0x2de92c6f, 0x4a7484aa, 0x5cb0a9dc, 0x76f988da,
  0x983e5152, 0xa831c66d, 0xb00327c8, 0xbf597fc7, 0xc6e00bf3, 0xd5a79147, 0x06ca6351, 0x14292967,
  0x27b70a85, 0x2e1b2138, 0x4d2c6dfc, 0x53380d13, 0x650a7354, 0x766a0abb, 0x81c2c92e, 0x92722c85,
  0xa2bfe8a1, 0xa81a664b, 0xc24b8b70, 0xc76c51a3, 0xd192e819, 0xd6990624, 0xf40e3585, 0x106aa070,
  0x19a4c116, 0x1e376c08, 0x2748774c, 0x34b0bcb5, 0x391c0cb3, 0x4ed8aa4a, 0x5b9cca4f, 0x682e6ff3,
  0x748f82ee, 0x78a5636f, 0x84c87814, 0x8cc70208, 0x90befffa, 0xa4506ceb, 0xbef9a3f7, 0xc67178f2]
theorem round_is : roundN = roundK := by decide +kernel

/- the rounds -/
def M32 : Nat := 4294967296
def rotr (x n : Nat) : Nat := (x / 2 ^ n) ||| (x * 2 ^ (32 - n) % 4294967296)
def ls0 (x : Nat) : Nat := rotr x 7 ^^^ rotr x 18 ^^^ (x / 8)
def ls1 (y : Nat) : Nat := rotr y 17 ^^^ rotr y 19 ^^^ (y / 1024)
def bs1 (e : Nat) : Nat := rotr e 6 ^^^ rotr e 11 ^^^ rotr e 25
def bs0 (a : Nat) : Nat := rotr a 2 ^^^ rotr a 13 ^^^ rotr a 22
def chN (e f g : Nat) : Nat := (e &&& f) ^^^ ((4294967295 - e) &&& g)
def majN (a b c : Nat) : Nat := (a &&& b) ^^^ (a &&& c) ^^^ (b &&& c)
/-- Sixteen words drawn out to more, one at a time. -/
def schedGo : Nat → List Nat → List Nat
  | 0, w => w
  | n + 1, w => schedGo n (w ++ [(w.getD (w.length - 16) 0 + w.getD (w.length - 7) 0 + ls0 (w.getD (w.length - 15) 0) + ls1 (w.getD (w.length - 2) 0)) % 4294967296])
abbrev St := Nat × Nat × Nat × Nat × Nat × Nat × Nat × Nat
def roundStep (v : St) (k w : Nat) : St :=
  match v with
  | (a, b, c, d, e, f, g, h) =>
    let t := (h + bs1 e + chN e f g + k + w) % 4294967296
    let u := (bs0 a + majN a b c) % 4294967296
    ((t + u) % 4294967296, a, b, c, (d + t) % 4294967296, e, f, g)
def rounds : St → List Nat → List Nat → St
  | v, k :: ks, w :: ws => rounds (roundStep v k w) ks ws
  | v, _, _ => v
def addSt (v h : St) : St :=
  match v, h with
  | (a, b, c, d, e, f, g, i), (a', b', c', d', e', f', g', i') =>
    ((a + a') % 4294967296, (b + b') % 4294967296, (c + c') % 4294967296, (d + d') % 4294967296, (e + e') % 4294967296, (f + f') % 4294967296, (g + g') % 4294967296, (i + i') % 4294967296)
def wordBE (l : List UInt8) (i : Nat) : Nat := (l.getD (4 * i) 0).toNat * 16777216 + (l.getD (4 * i + 1) 0).toNat * 65536 + (l.getD (4 * i + 2) 0).toNat * 256 + (l.getD (4 * i + 3) 0).toNat
def words16 (l : List UInt8) : List Nat := (List.range 16).map (wordBE l)
def blockN (h : St) (l : List UInt8) : St := addSt (rounds h roundK (schedGo 48 (words16 l))) h
def blocks : Nat → St → List UInt8 → St
  | 0, h, _ => h
  | n + 1, h, l => blocks n (blockN h (l.take 64)) (l.drop 64)
def be8 (n : Nat) : List UInt8 := (List.range 8).map fun i => UInt8.ofNat (n / 2 ^ (8 * (7 - i)) % 256)
def be4 (n : Nat) : List UInt8 := (List.range 4).map fun i => UInt8.ofNat (n / 2 ^ (8 * (3 - i)) % 256)
/-- How many noughts stand behind the byte 80. -/
def noughts (n : Nat) : Nat := (119 - n % 64) % 64
def padL (s : List UInt8) : List UInt8 := s ++ [128] ++ List.replicate (noughts s.length) 0 ++ be8 (s.length * 8)
def start : St := (0x6a09e667, 0xbb67ae85, 0x3c6ef372, 0xa54ff53a, 0x510e527f, 0x9b05688c, 0x1f83d9ab, 0x5be0cd19)
def outL (v : St) : List UInt8 := match v with
  | (a, b, c, d, e, f, g, h) => be4 a ++ be4 b ++ be4 c ++ be4 d ++ be4 e ++ be4 f ++ be4 g ++ be4 h
def shaL (s : List UInt8) : List UInt8 := outL (blocks ((padL s).length / 64) start (padL s))
theorem sha_abc : shaL [97, 98, 99] = [0xba, 0x78, 0x16, 0xbf, 0x8f, 0x01, 0xcf, 0xea, 0x41, 0x41, 0x40, 0xde, 0x5d, 0xae, 0x22, 0x23, 0xb0, 0x03, 0x61, 0xa3, 0x96, 0x17, 0x7a, 0x9c, 0xb4, 0x10, 0xff, 0x61, 0xf2, 0x00, 0x15, 0xad] := by decide +kernel
theorem padL_len (s : List UInt8) : (padL s).length % 64 = 0 := by
  unfold padL noughts be8
  simp only [List.length_append, List.length_replicate, List.length_map, List.length_range, List.length_singleton]
  omega
end Go.Proofs.YtbklnijmalnnoaaDoor.HS
