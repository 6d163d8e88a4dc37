/- The bit operations that the code uses, in numbers. -/
import Derived.Test.YtnpbhpidciiciaaBase
import Derived.Laws.BitsAllLaws
namespace Go.Proofs.Ytnpbhpidciiciaa
open Go.RowKit

theorem or128_nat : ∀ x, x < 256 → x ||| 128 = x % 128 + 128 := by decide +kernel

theorem or128 (u : Nat) : bits .or .u8 ((u : Int) % 256) 128 = ((u % 128 + 128 : Nat) : Int) := by
  have h : ((u : Int) % 256) = ((u % 256 : Nat) : Int) := by omega
  rw [h, show (128 : Int) = ((128 : Nat) : Int) from rfl, u8_or_nat _ _ (by omega) (by omega), or128_nat _ (by omega)]
  omega

theorem or128s (u : Nat) (h : u < 128) : bits .or .u8 (u : Int) 128 = ((u % 128 + 128 : Nat) : Int) := by
  rw [show (128 : Int) = ((128 : Nat) : Int) from rfl, u8_or_nat _ _ (by omega) (by omega), or128_nat _ (by omega)]

theorem not128 (c : Nat) (h : c < 256) : bits .andNot .u8 (c : Int) 128 = ((c % 128 : Nat) : Int) := by
  rw [show (128 : Int) = ((128 : Nat) : Int) from rfl, u8_andNot_nat _ _ (by omega) (by omega)]
  rw [show 255 - 128 = 127 from rfl, nat_mask7]

theorem and127 (c : Nat) (h : c < 256) : bits .and .u8 (c : Int) 127 = ((c % 128 : Nat) : Int) := by
  rw [show (127 : Int) = ((127 : Nat) : Int) from rfl, u8_and_nat _ _ (by omega) (by omega), nat_mask7]

/-- the byte of a number that goes on -/
def goOn (u : Nat) : UInt8 := UInt8.ofNat (u % 128 + 128)
theorem u8_goOn (u : Nat) : u8 (goOn u) = .int .u8 ((u % 128 + 128 : Nat) : Int) := u8_ofNat (by omega)

theorem join (v x i : Nat) (hv : v < 2 ^ i) (hx : U64 (x * 2 ^ i)) (hv' : U64 v) : bits .or .u64 (v : Int) ((x * 2 ^ i : Nat) : Int) = ((v + x * 2 ^ i : Nat) : Int) := by
  rw [u64_or_nat _ _ hv'.out hx.out, Nat.or_comm, nat_join i _ _ (Nat.mul_mod_left x (2 ^ i)) hv, Nat.add_comm]

theorem wrap_u64_nat {n : Nat} (h : U64 n) : IntKind.u64.wrap (n : Int) = (n : Int) := by
  have := h.out
  have e : IntKind.u64.wrap (n : Int) = (n : Int) % 18446744073709551616 := by simp [IntKind.wrap, IntKind.bits, IntKind.signed]
  rw [e]
  omega

theorem pow_step {n i u : Nat} (hu : u < 2 ^ (7 * i)) : u + n % 128 * 2 ^ (7 * i) < 2 ^ (7 * (i + 1)) := by
  have e : 2 ^ (7 * (i + 1)) = 128 * 2 ^ (7 * i) := by rw [show 7 * (i + 1) = 7 + 7 * i from by omega, Nat.pow_add]
  rw [e]
  have h1 : n % 128 * 2 ^ (7 * i) ≤ 127 * 2 ^ (7 * i) := Nat.mul_le_mul_right _ (by omega)
  omega

theorem pow_u64 {i u : Nat} (hi : i ≤ 9) (hu : u < 2 ^ (7 * i)) : U64 u :=
  Nat.lt_of_lt_of_le hu (Nat.le_trans (Nat.pow_le_pow_right (by decide) (show 7 * i ≤ 63 by omega)) (by decide))

theorem step_or (n i u : Nat) (hn : n < 256) (hi : i < 9) (hu : u < 2 ^ (7 * i)) :
    bits .or .u64 (u : Int) (IntKind.u64.wrap (IntKind.u64.wrap (bits .andNot .u8 (n : Int) 128) * 2 ^ (7 * i))) = ((u + n % 128 * 2 ^ (7 * i) : Nat) : Int) := by
  have hlt := pow_u64 (show i + 1 ≤ 9 by omega) (pow_step (n := n) hu)
  have hx : U64 (n % 128 * 2 ^ (7 * i)) := hlt.le (by omega)
  have h7 : U64 (n % 128) := Nat.lt_of_lt_of_le (Nat.mod_lt _ (by decide)) (by decide)
  rw [not128 n hn, wrap_u64_nat h7]
  have e : ((n % 128 : Nat) : Int) * 2 ^ (7 * i) = ((n % 128 * 2 ^ (7 * i) : Nat) : Int) := by simp
  rw [e, wrap_u64_nat hx, join u (n % 128) (7 * i) hu hx (pow_u64 (by omega) hu)]

end Go.Proofs.Ytnpbhpidciiciaa
