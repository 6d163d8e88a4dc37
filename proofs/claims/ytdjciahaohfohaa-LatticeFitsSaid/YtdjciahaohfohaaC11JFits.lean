/- Texts that the proof is made of, joined. No condition. -/
import Derived.Test.YtdjciahaohfohaaC11JFits1
import Derived.Test.YtdjciahaohfohaaC11JFits2
import Derived.Test.YtdjciahaohfohaaC11JFits3
import Derived.Deep.DeepCutAuto
import Derived.Deep.CutBlock
set_option linter.unusedVariables false
set_option linter.unusedSimpArgs false
set_option maxRecDepth 100000
set_option maxHeartbeats 16000000
namespace Go.Proofs.Ytdjciahaohfohaa.R
open Go.RowKit Go.Proofs.Ytdjciahaohfohaa.D Go.Proofs.Ytdjciahaohfohaa.O Go.Proofs.Ytdjciahaohfohaa.A
theorem fits_l (k0 k1 k2 k3 x y z : Nat) (w : World) (h0 : k0 < 256) (h1 : k1 < 256) (h2 : k2 < 256) (h3 : k3 < 256) (hx : x < 256) (hy : y < 256) (hz : z < 256) :
    Calls Try.prog 7 #[.agg #[.int .u8 (k0 : Int), .int .u8 (k1 : Int), .int .u8 (k2 : Int), .int .u8 (k3 : Int)], .int .u8 (x : Int), .int .u8 (y : Int), .int .u8 (z : Int)] w fun e w' => e = .returned (.bool true) ∧ Below w.heap.size w w' := by
  obtain ⟨hac, -, -, -, -, hrr, -⟩ := fits_facts (bitS k0 3) (bitS k0 6) (bitS k2 2) (of_ix (s := ⟨#[65]⟩) (sx := 7) rfl x).1 (of_ix (s := ⟨#[65]⟩) (sx := 7) rfl y).1 (of_ix (s := ⟨#[65]⟩) (sx := 7) rfl z).1
  cases p_ab : fitsT (tabT (bitS k0 3) (bitS k0 6) (bitS k2 2)) (ofJ x ⟨#[65]⟩) (ofJ y ⟨#[65]⟩) with
  | false =>
    cases p_ra : refB (ofJ x ⟨#[65]⟩) with
    | false => exact fits_p1 k0 k1 k2 k3 x y z w h0 h1 h2 h3 hx hy hz p_ab p_ra
    | true =>
      cases p_ba : fitsT (tabT (bitS k0 3) (bitS k0 6) (bitS k2 2)) (ofJ y ⟨#[65]⟩) (ofJ x ⟨#[65]⟩) with
      | false => exact fits_p2 k0 k1 k2 k3 x y z w h0 h1 h2 h3 hx hy hz p_ab p_ra p_ba
      | true => exact fits_p3 k0 k1 k2 k3 x y z w h0 h1 h2 h3 hx hy hz p_ab p_ra p_ba (hrr p_ra p_ba)
  | true =>
    cases p_bc : fitsT (tabT (bitS k0 3) (bitS k0 6) (bitS k2 2)) (ofJ y ⟨#[65]⟩) (ofJ z ⟨#[65]⟩) with
    | false =>
      cases p_ra : refB (ofJ x ⟨#[65]⟩) with
      | false => exact fits_p4 k0 k1 k2 k3 x y z w h0 h1 h2 h3 hx hy hz p_ab p_bc p_ra
      | true =>
        cases p_ba : fitsT (tabT (bitS k0 3) (bitS k0 6) (bitS k2 2)) (ofJ y ⟨#[65]⟩) (ofJ x ⟨#[65]⟩) with
        | false => exact fits_p5 k0 k1 k2 k3 x y z w h0 h1 h2 h3 hx hy hz p_ab p_bc p_ra p_ba
        | true => exact fits_p6 k0 k1 k2 k3 x y z w h0 h1 h2 h3 hx hy hz p_ab p_bc p_ra p_ba (hrr p_ra p_ba)
    | true =>
      cases p_ra : refB (ofJ x ⟨#[65]⟩) with
      | false => exact fits_p7 k0 k1 k2 k3 x y z w h0 h1 h2 h3 hx hy hz p_ab p_bc (hac p_ab p_bc) p_ra
      | true =>
        cases p_ba : fitsT (tabT (bitS k0 3) (bitS k0 6) (bitS k2 2)) (ofJ y ⟨#[65]⟩) (ofJ x ⟨#[65]⟩) with
        | false => exact fits_p8 k0 k1 k2 k3 x y z w h0 h1 h2 h3 hx hy hz p_ab p_bc (hac p_ab p_bc) p_ra p_ba
        | true => exact fits_p9 k0 k1 k2 k3 x y z w h0 h1 h2 h3 hx hy hz p_ab p_bc (hac p_ab p_bc) p_ra p_ba (hrr p_ra p_ba)
end Go.Proofs.Ytdjciahaohfohaa.R
