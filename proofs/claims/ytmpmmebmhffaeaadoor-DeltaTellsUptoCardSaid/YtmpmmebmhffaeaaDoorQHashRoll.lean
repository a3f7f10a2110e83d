/- Layer 4: the contract of the program's Roll. -/
import Derived.Test.YtmpmmebmhffaeaaDoorQHashMix
set_option linter.all false
set_option maxRecDepth 100000
set_option maxHeartbeats 25600000
namespace Go.Proofs.YtmpmmebmhffaeaaDoor
open Go.RowKit Go.Lib
namespace HQ
open HP HS HR

theorem emod_nat (z : Int) : ∃ n : Nat, z % 4294967296 = n ∧ n < 4294967296 := ⟨(z % 4294967296).toNat, by omega, by omega⟩
theorem roll_nat {v p q o i : Nat} {n : Int} (hp : ((v : Int) - o + i) % 4294967296 = p) (hq : ((v : Int) / 65536 - n % 4294967296 * ((o : Int) % 4294967296) + ((v : Int) - o + i)) % 4294967296 = q) (ho : o < 256) :
    ((p % 65536 + 65536 * (q % 65536) : Nat) : Int) = (((v % 65536 : Nat) : Int) - o + i) % 65536 + 65536 * ((((v / 65536 : Nat) : Int) - n * o + (((v % 65536 : Nat) : Int) - o + i) % 65536) % 65536) := by
  have e1 : (o : Int) % 4294967296 = o := by omega
  rw [e1] at hq
  have e2 : n * (o : Int) = n % 4294967296 * o + 4294967296 * (n / 4294967296 * o) := by
    rw [← Int.mul_assoc, ← Int.add_mul, Int.emod_add_mul_ediv]
  rw [e2]
  generalize n % 4294967296 * (o : Int) = r at hq
  generalize n / 4294967296 * (o : Int) = t
  omega
set_option maxRecDepth 100000 in
set_option maxHeartbeats 1600000 in
theorem roll_any (v : Nat) (n : Int) (out inn : UInt8) (w : World) (hv : v < 4294967296) (h0 : -9223372036854775808 ≤ n) (h1 : n ≤ 9223372036854775807) :
    Calls Tryd.prog 54 #[.int .u32 v, .int .i64 n, .int .u8 out.toNat, .int .u8 inn.toNat] w fun e w' => e = .returned (.int .u32 (rollL v n out inn)) ∧ w = w' := by
  have ho := out.toNat_lt
  have hi := inn.toNat_lt
  unfold rollL
  generalize out.toNat = o at ho ⊢
  generalize inn.toNat = i at hi ⊢
  have HO := Lib.hid ho
  have hv' := Lib.hid hv
  clear ho hi hv h0 h1
  obtain ⟨p, hp, hp2⟩ := emod_nat ((v : Int) - o + i)
  obtain ⟨q, hq, hq2⟩ := emod_nat ((v : Int) / 65536 - n % 4294967296 * ((o : Int) % 4294967296) + ((v : Int) - o + i))
  have HP' := Lib.hid hp
  have HQ' := Lib.hid hq
  have cW := Lib.hid (fun W => weak_any p q W hp2 hq2)
  clear hp hq hp2 hq2
  go_enter Tryd.func54, Tryd.ntmps54
  go_wp2_with fail
  rw [HP'.out, HQ'.out]
  refine (cW.out _).mono ?_
  rintro e w' ⟨rfl, rfl⟩
  go_wp2_with fail
  go_ret
  refine ⟨?_, rfl⟩
  refine congrArg (fun z => Ending.returned (Value.int .u32 z)) (roll_nat HP'.out HQ'.out HO.out)
end HQ
end Go.Proofs.YtmpmmebmhffaeaaDoor
