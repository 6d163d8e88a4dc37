/- Texts that the proof is made of, joined. No condition. -/
import Derived.Test.YtdjciahaohfohaaC11JJoinN
import Derived.Test.YtdjciahaohfohaaC11JJoin1
import Derived.Test.YtdjciahaohfohaaC11JJoin2
import Derived.Test.YtdjciahaohfohaaC11JJoin3
import Derived.Test.YtdjciahaohfohaaC11JJoin4
import Derived.Test.YtdjciahaohfohaaC11JJoin5
import Derived.Test.YtdjciahaohfohaaC11JJoin6
import Derived.Test.YtdjciahaohfohaaC11JJoin7
import Derived.Test.YtdjciahaohfohaaC11JJoin8
import Derived.Deep.DeepCutAuto
import Derived.Deep.CutBlock
set_option linter.unusedVariables false
set_option linter.unusedSimpArgs false
set_option maxRecDepth 100000
set_option maxHeartbeats 16000000
namespace Go.Proofs.Ytdjciahaohfohaa.R
open Go.RowKit Go.Proofs.Ytdjciahaohfohaa.D Go.Proofs.Ytdjciahaohfohaa.O Go.Proofs.Ytdjciahaohfohaa.A
theorem joins_l (k0 k1 k2 k3 x y z u : Nat) (w : World) (h0 : k0 < 256) (h1 : k1 < 256) (h2 : k2 < 256) (h3 : k3 < 256) (hx : x < 256) (hy : y < 256) (hz : z < 256) (hu : u < 256) :
    Calls Try.prog 4 #[.agg #[.int .u8 (k0 : Int), .int .u8 (k1 : Int), .int .u8 (k2 : Int), .int .u8 (k3 : Int)], .int .u8 (x : Int), .int .u8 (y : Int), .int .u8 (z : Int), .int .u8 (u : Int)] w fun e w' => e = .returned (.bool true) ∧ Below w.heap.size w w' := by
  obtain ⟨xo, hxe⟩ : ∃ n : Nat, x ||| 1 = n := ⟨_, rfl⟩
  have hxo : xo < 256 := by rw [← hxe]; exact Nat.or_lt_two_pow (n := 8) hx (by decide)
  have hor : bits .or .u8 (x : Int) 1 = (xo : Int) := by
    rw [show (1 : Int) = ((1 : Nat) : Int) from rfl, u8_or_nat _ _ hx (by decide), hxe]
  cases hany : (((ofJ xo ⟨#[65]⟩).2.toList == [78, 111, 98, 111, 100, 121]) || (((ofJ y ⟨#[65]⟩).2.toList == [78, 111, 98, 111, 100, 121]) || (((ofJ z ⟨#[65]⟩).2.toList == [78, 111, 98, 111, 100, 121]) || ((ofJ u ⟨#[65]⟩).2.toList == [78, 111, 98, 111, 100, 121])))) with
  | true => exact joins_n k0 k1 k2 k3 x y z u w h0 h1 h2 h3 hx hy hz hu xo hxo hor hany
  | false =>
    simp only [Bool.or_eq_false_iff] at hany
    obtain ⟨na, nb, nc, nd⟩ := hany
    cases p7 : ((joinT (tabT (bitS k0 3) (bitS k0 6) (bitS k2 2)) (ofJ xo ⟨#[65]⟩) (ofJ y ⟨#[65]⟩)).1 == 7) with
    | true =>
      cases pi : ifB (ofJ u ⟨#[65]⟩) with
      | true => exact joins_p1 k0 k1 k2 k3 x y z u w h0 h1 h2 h3 hx hy hz hu xo hxo hor na nb nc nd p7 pi
      | false =>
        cases pad : fitsT (tabT (bitS k0 3) (bitS k0 6) (bitS k2 2)) (ofJ xo ⟨#[65]⟩) (ofJ u ⟨#[65]⟩) with
        | false => exact joins_p2 k0 k1 k2 k3 x y z u w h0 h1 h2 h3 hx hy hz hu xo hxo hor na nb nc nd p7 pi pad
        | true =>
          cases pbd : fitsT (tabT (bitS k0 3) (bitS k0 6) (bitS k2 2)) (ofJ y ⟨#[65]⟩) (ofJ u ⟨#[65]⟩) with
          | false => exact joins_p3 k0 k1 k2 k3 x y z u w h0 h1 h2 h3 hx hy hz hu xo hxo hor na nb nc nd p7 pi pad pbd
          | true => exact joins_p4 k0 k1 k2 k3 x y z u w h0 h1 h2 h3 hx hy hz hu xo hxo hor na nb nc nd p7 pi pad pbd
    | false =>
      cases pi : ifB (ofJ u ⟨#[65]⟩) with
      | true => exact joins_p5 k0 k1 k2 k3 x y z u w h0 h1 h2 h3 hx hy hz hu xo hxo hor na nb nc nd p7 pi
      | false =>
        cases pad : fitsT (tabT (bitS k0 3) (bitS k0 6) (bitS k2 2)) (ofJ xo ⟨#[65]⟩) (ofJ u ⟨#[65]⟩) with
        | false => exact joins_p6 k0 k1 k2 k3 x y z u w h0 h1 h2 h3 hx hy hz hu xo hxo hor na nb nc nd p7 pi pad
        | true =>
          cases pbd : fitsT (tabT (bitS k0 3) (bitS k0 6) (bitS k2 2)) (ofJ y ⟨#[65]⟩) (ofJ u ⟨#[65]⟩) with
          | false => exact joins_p7 k0 k1 k2 k3 x y z u w h0 h1 h2 h3 hx hy hz hu xo hxo hor na nb nc nd p7 pi pad pbd
          | true => exact joins_p8 k0 k1 k2 k3 x y z u w h0 h1 h2 h3 hx hy hz hu xo hxo hor na nb nc nd p7 pi pad pbd
end Go.Proofs.Ytdjciahaohfohaa.R
