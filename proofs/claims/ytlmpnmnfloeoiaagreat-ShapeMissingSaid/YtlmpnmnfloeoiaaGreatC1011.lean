/- Texts that the proof is made of, joined. No condition. -/
import Derived.Test.YtlmpnmnfloeoiaaGreatC109
import Derived.Test.YtlmpnmnfloeoiaaGreatC102
import Derived.Test.YtlmpnmnfloeoiaaGreatC100
import Derived.Test.YtlmpnmnfloeoiaaGreatC1010
import Derived.Test.YtlmpnmnfloeoiaaGreatC104
import Derived.StillTailTactics
import Derived.Deep.RegionHeld3
import Derived.Test.YtlmpnmnfloeoiaaGreatC10H
set_option linter.unusedVariables false
set_option linter.unusedSimpArgs false
set_option maxRecDepth 100000
set_option maxHeartbeats 16000000
namespace Go.Proofs.YtlmpnmnfloeoiaaGreat.R
open Go.RowKit Go.Proofs.YtlmpnmnfloeoiaaGreat.D Go.Proofs.YtlmpnmnfloeoiaaGreat.O Go.Proofs.YtlmpnmnfloeoiaaGreat.A
theorem five_at {w : World} {b o : Nat} {v0 v1 v2 v3 v4 : Value} (h : CellsAt w b o [v0, v1, v2, v3, v4]) : w.cell? ⟨b, o, none⟩ = some v0 ∧ w.cell? ⟨b, o + 1, none⟩ = some v1 ∧ w.cell? ⟨b, o + 2, none⟩ = some v2 ∧ w.cell? ⟨b, o + 3, none⟩ = some v3 ∧ w.cell? ⟨b, o + 4, none⟩ = some v4 :=
  ⟨h 0 _ rfl, h 1 _ rfl, h 2 _ rfl, h 3 _ rfl, h 4 _ rfl⟩
set_option maxHeartbeats 2000000 in
theorem idxI_str (p : Option Addr) (cap : Nat) (ok : Nat → Prop) (xs : List ByteArray) (g : Nat) (lb : Array Value) (pr : ByteArray → Bool) (Inv : World → Prop) (w : World) (hw : Inv w) (hr : ∀ W, Inv W → RdX 1 (sP strC) ok W (.slice p xs.length cap) xs) (hl : xs.length ≤ 1000000) (eg : ∀ args w, (callFunc g args).run Tryz.prog w = .ok (.enter g args) w)
    (hp : ∀ (W : World) (x : ByteArray), x ∈ xs → Inv W → Calls Tryz.prog g (#[.string x] ++ lb) W fun e w' => e = .returned (.bool (pr x)) ∧ Inv w') :
    Calls Tryz.prog 92 #[.slice p xs.length cap, .func (.func g) #[] lb] w fun e w' => e = .returned (.int .i64 (idxP pr xs)) ∧ Inv w' := by
  have HR := Lib.hid hr
  have HP := Lib.hid hp
  have HW := Lib.hid hw
  clear hr hp hw
  go_enter Tryz.func92, Tryz.ntmps92
  go_wp2_with fail
  go_loopg [5, 8] xs.length (fun gg _ s8 wr => ∃ i : Nat, i ≤ xs.length ∧ xs.length - i ≤ gg ∧ s8 = .int .i64 (i : Int) ∧ Hid (Inv wr) ∧ Hid (∀ j y, j < i → xs[j]? = some y → pr y = false))
  case atStart => exact ⟨0, by omega, by omega, rfl, HW, Lib.hid (fun j y h => absurd h (Nat.not_lt_zero _))⟩
  case round =>
    obtain ⟨i, hi, hg, rfl, HI, HA⟩ := hrel
    clear HW
    by_cases hlt : i < xs.length
    · obtain ⟨x, hx⟩ : ∃ x, xs[i]? = some x := ⟨_, List.getElem?_eq_getElem hlt⟩
      have hlt' : (i : Int) < (xs.length : Int) := by omega
      have i0 : (0 : Int) ≤ (i : Int) := by omega
      have hne : xs ≠ [] := by rintro rfl; simp at hlt
      obtain ⟨b, off, rfl, -, -, hBb, hbl, hcells⟩ := (HR.out wr HI.out).place hne
      obtain ⟨l, rfl, hcell⟩ := hcells _ _ hx
      have y0 := CellsAt.one (show CellsAt wr b (off + i * 1) [.string x] from hcell)
      rw [Nat.mul_one] at y0
      have hmem := List.mem_of_getElem? hx
      have hcall := HP.out wr x hmem HI.out
      have HX := Lib.hid hx
      clear hcells hcell hne hx hmem hBb
      cases hq : pr x with
      | true =>
        rw [hq] at hcall
        go_wp2_with (go_at_fn g; refine hcall.mono ?_; rintro e w' ⟨rfl, hb'⟩)
        go_ret
        exact ⟨by rw [idx_hit HX.out hq HA.out]; rfl, hb'⟩
      | false =>
        rw [hq] at hcall
        go_wp2_with (go_at_fn g; refine hcall.mono ?_; rintro e w' ⟨rfl, hb'⟩)
        go_roundg (xs.length - (i + 1))
        case measure => omega
        case rel =>
          refine ⟨i + 1, by omega, by omega, by go_num, Lib.hid hb', Lib.hid (fun j y hj hy => ?_)⟩
          by_cases e : j = i
          · subst e
            have := HX.out
            rw [hy] at this
            cases this
            exact hq
          · exact HA.out j y (by omega) hy
    · have hlt' : ¬ (i : Int) < (xs.length : Int) := by omega
      obtain rfl : i = xs.length := by omega
      go_wp2_with fail
      go_ret
      exact ⟨by rw [idx_miss HA.out]; rfl, HI.out⟩
set_option maxHeartbeats 2000000 in
theorem hasI_str (p : Option Addr) (cap : Nat) (ok : Nat → Prop) (xs : List ByteArray) (g : Nat) (lb : Array Value) (pr : ByteArray → Bool) (Inv : World → Prop) (w : World) (hw : Inv w) (hr : ∀ W, Inv W → RdX 1 (sP strC) ok W (.slice p xs.length cap) xs) (hl : xs.length ≤ 1000000) (eg : ∀ args w, (callFunc g args).run Tryz.prog w = .ok (.enter g args) w)
    (hp : ∀ (W : World) (x : ByteArray), x ∈ xs → Inv W → Calls Tryz.prog g (#[.string x] ++ lb) W fun e w' => e = .returned (.bool (pr x)) ∧ Inv w') :
    Calls Tryz.prog 61 #[.slice p xs.length cap, .func (.func g) #[] lb] w fun e w' => e = .returned (.bool (xs.any pr)) ∧ Inv w' := by
  rw [← idx_any]
  have hcon := idxI_str p cap ok xs g lb pr Inv w hw hr hl eg hp
  clear hr hp hw
  generalize idxP pr xs = r at hcon ⊢
  go_enter Tryz.func61, Tryz.ntmps61
  go_wp2_with (go_at_call 92; refine hcon.mono ?_; rintro e w' ⟨rfl, hb'⟩)
  go_ret
  exact ⟨rfl, hb'⟩
set_option maxHeartbeats 2000000 in
theorem idxI_fld (p : Option Addr) (cap : Nat) (ok : Nat → Prop) (xs : List Fld) (g : Nat) (lb : Array Value) (pr : Fld → Bool) (Inv : World → Prop) (w : World) (hw : Inv w) (hr : ∀ W, Inv W → RdX 4 (sP fldC) ok W (.slice p xs.length cap) xs) (hl : xs.length ≤ 1000000) (eg : ∀ args w, (callFunc g args).run Tryz.prog w = .ok (.enter g args) w)
    (hp : ∀ (W : World) (x : Fld), x ∈ xs → Inv W → Calls Tryz.prog g (#[.agg #[.string x.1, .int .i64 x.2.1.1, .string x.2.1.2, .bool x.2.2]] ++ lb) W fun e w' => e = .returned (.bool (pr x)) ∧ Inv w') :
    Calls Tryz.prog 99 #[.slice p xs.length cap, .func (.func g) #[] lb] w fun e w' => e = .returned (.int .i64 (idxP pr xs)) ∧ Inv w' := by
  have HR := Lib.hid hr
  have HP := Lib.hid hp
  have HW := Lib.hid hw
  clear hr hp hw
  go_enter Tryz.func99, Tryz.ntmps99
  go_wp2_with fail
  go_loopg [5, 8] xs.length (fun gg _ s8 wr => ∃ i : Nat, i ≤ xs.length ∧ xs.length - i ≤ gg ∧ s8 = .int .i64 (i : Int) ∧ Hid (Inv wr) ∧ Hid (∀ j y, j < i → xs[j]? = some y → pr y = false))
  case atStart => exact ⟨0, by omega, by omega, rfl, HW, Lib.hid (fun j y h => absurd h (Nat.not_lt_zero _))⟩
  case round =>
    obtain ⟨i, hi, hg, rfl, HI, HA⟩ := hrel
    clear HW
    by_cases hlt : i < xs.length
    · obtain ⟨x, hx⟩ : ∃ x, xs[i]? = some x := ⟨_, List.getElem?_eq_getElem hlt⟩
      have hlt' : (i : Int) < (xs.length : Int) := by omega
      have i0 : (0 : Int) ≤ (i : Int) := by omega
      have hne : xs ≠ [] := by rintro rfl; simp at hlt
      obtain ⟨b, off, rfl, -, -, hBb, hbl, hcells⟩ := (HR.out wr HI.out).place hne
      obtain ⟨l, rfl, hcell⟩ := hcells _ _ hx
      obtain ⟨y0, y1, y2, y3⟩ := CellsAt.four (show CellsAt wr b (off + i * 4) [.string x.1, .int .i64 x.2.1.1, .string x.2.1.2, .bool x.2.2] from hcell)
      have hmem := List.mem_of_getElem? hx
      have hcall := HP.out wr x hmem HI.out
      have HX := Lib.hid hx
      clear hcells hcell hne hx hmem hBb
      cases hq : pr x with
      | true =>
        rw [hq] at hcall
        go_wp2_with (go_at_fn g; refine hcall.mono ?_; rintro e w' ⟨rfl, hb'⟩)
        go_ret
        exact ⟨by rw [idx_hit HX.out hq HA.out]; rfl, hb'⟩
      | false =>
        rw [hq] at hcall
        go_wp2_with (go_at_fn g; refine hcall.mono ?_; rintro e w' ⟨rfl, hb'⟩)
        go_roundg (xs.length - (i + 1))
        case measure => omega
        case rel =>
          refine ⟨i + 1, by omega, by omega, by go_num, Lib.hid hb', Lib.hid (fun j y hj hy => ?_)⟩
          by_cases e : j = i
          · subst e
            have := HX.out
            rw [hy] at this
            cases this
            exact hq
          · exact HA.out j y (by omega) hy
    · have hlt' : ¬ (i : Int) < (xs.length : Int) := by omega
      obtain rfl : i = xs.length := by omega
      go_wp2_with fail
      go_ret
      exact ⟨by rw [idx_miss HA.out]; rfl, HI.out⟩
set_option maxHeartbeats 2000000 in
theorem hasI_fld (p : Option Addr) (cap : Nat) (ok : Nat → Prop) (xs : List Fld) (g : Nat) (lb : Array Value) (pr : Fld → Bool) (Inv : World → Prop) (w : World) (hw : Inv w) (hr : ∀ W, Inv W → RdX 4 (sP fldC) ok W (.slice p xs.length cap) xs) (hl : xs.length ≤ 1000000) (eg : ∀ args w, (callFunc g args).run Tryz.prog w = .ok (.enter g args) w)
    (hp : ∀ (W : World) (x : Fld), x ∈ xs → Inv W → Calls Tryz.prog g (#[.agg #[.string x.1, .int .i64 x.2.1.1, .string x.2.1.2, .bool x.2.2]] ++ lb) W fun e w' => e = .returned (.bool (pr x)) ∧ Inv w') :
    Calls Tryz.prog 70 #[.slice p xs.length cap, .func (.func g) #[] lb] w fun e w' => e = .returned (.bool (xs.any pr)) ∧ Inv w' := by
  rw [← idx_any]
  have hcon := idxI_fld p cap ok xs g lb pr Inv w hw hr hl eg hp
  clear hr hp hw
  generalize idxP pr xs = r at hcon ⊢
  go_enter Tryz.func70, Tryz.ntmps70
  go_wp2_with (go_at_call 99; refine hcon.mono ?_; rintro e w' ⟨rfl, hb'⟩)
  go_ret
  exact ⟨rfl, hb'⟩
set_option maxHeartbeats 2000000 in
theorem idxI_typ (p : Option Addr) (cap : Nat) (ok : Nat → Prop) (xs : List Ty) (g : Nat) (va : Value) (pr : Ty → Bool) (Inv : World → Prop) (w : World) (hw : Inv w) (hr : ∀ W, Inv W → RdX 2 (sP tyC) ok W (.slice p xs.length cap) xs) (hl : xs.length ≤ 1000000) (eg : ∀ args w, (callFunc g args).run Tryz.prog w = .ok (.enter g args) w)
    (hp : ∀ (W : World) (x : Ty), x ∈ xs → Inv W → Calls Tryz.prog g #[va, .agg #[.int .i64 x.1, .string x.2]] W fun e w' => e = .returned (.bool (pr x)) ∧ Inv w') :
    Calls Tryz.prog 101 #[.slice p xs.length cap, .func (.func g) #[va] #[]] w fun e w' => e = .returned (.int .i64 (idxP pr xs)) ∧ Inv w' := by
  have HR := Lib.hid hr
  have HP := Lib.hid hp
  have HW := Lib.hid hw
  clear hr hp hw
  go_enter Tryz.func101, Tryz.ntmps101
  go_wp2_with fail
  go_loopg [5, 8] xs.length (fun gg _ s8 wr => ∃ i : Nat, i ≤ xs.length ∧ xs.length - i ≤ gg ∧ s8 = .int .i64 (i : Int) ∧ Hid (Inv wr) ∧ Hid (∀ j y, j < i → xs[j]? = some y → pr y = false))
  case atStart => exact ⟨0, by omega, by omega, rfl, HW, Lib.hid (fun j y h => absurd h (Nat.not_lt_zero _))⟩
  case round =>
    obtain ⟨i, hi, hg, rfl, HI, HA⟩ := hrel
    clear HW
    by_cases hlt : i < xs.length
    · obtain ⟨x, hx⟩ : ∃ x, xs[i]? = some x := ⟨_, List.getElem?_eq_getElem hlt⟩
      have hlt' : (i : Int) < (xs.length : Int) := by omega
      have i0 : (0 : Int) ≤ (i : Int) := by omega
      have hne : xs ≠ [] := by rintro rfl; simp at hlt
      obtain ⟨b, off, rfl, -, -, hBb, hbl, hcells⟩ := (HR.out wr HI.out).place hne
      obtain ⟨l, rfl, hcell⟩ := hcells _ _ hx
      obtain ⟨y0, y1⟩ := CellsAt.two (show CellsAt wr b (off + i * 2) [.int .i64 x.1, .string x.2] from hcell)
      have hmem := List.mem_of_getElem? hx
      have hcall := HP.out wr x hmem HI.out
      have HX := Lib.hid hx
      clear hcells hcell hne hx hmem hBb
      cases hq : pr x with
      | true =>
        rw [hq] at hcall
        go_wp2_with (go_at_fn g; refine hcall.mono ?_; rintro e w' ⟨rfl, hb'⟩)
        go_ret
        exact ⟨by rw [idx_hit HX.out hq HA.out]; rfl, hb'⟩
      | false =>
        rw [hq] at hcall
        go_wp2_with (go_at_fn g; refine hcall.mono ?_; rintro e w' ⟨rfl, hb'⟩)
        go_roundg (xs.length - (i + 1))
        case measure => omega
        case rel =>
          refine ⟨i + 1, by omega, by omega, by go_num, Lib.hid hb', Lib.hid (fun j y hj hy => ?_)⟩
          by_cases e : j = i
          · subst e
            have := HX.out
            rw [hy] at this
            cases this
            exact hq
          · exact HA.out j y (by omega) hy
    · have hlt' : ¬ (i : Int) < (xs.length : Int) := by omega
      obtain rfl : i = xs.length := by omega
      go_wp2_with fail
      go_ret
      exact ⟨by rw [idx_miss HA.out]; rfl, HI.out⟩
set_option maxHeartbeats 2000000 in
theorem hasI_typ (p : Option Addr) (cap : Nat) (ok : Nat → Prop) (xs : List Ty) (g : Nat) (va : Value) (pr : Ty → Bool) (Inv : World → Prop) (w : World) (hw : Inv w) (hr : ∀ W, Inv W → RdX 2 (sP tyC) ok W (.slice p xs.length cap) xs) (hl : xs.length ≤ 1000000) (eg : ∀ args w, (callFunc g args).run Tryz.prog w = .ok (.enter g args) w)
    (hp : ∀ (W : World) (x : Ty), x ∈ xs → Inv W → Calls Tryz.prog g #[va, .agg #[.int .i64 x.1, .string x.2]] W fun e w' => e = .returned (.bool (pr x)) ∧ Inv w') :
    Calls Tryz.prog 74 #[.slice p xs.length cap, .func (.func g) #[va] #[]] w fun e w' => e = .returned (.bool (xs.any pr)) ∧ Inv w' := by
  rw [← idx_any]
  have hcon := idxI_typ p cap ok xs g va pr Inv w hw hr hl eg hp
  clear hr hp hw
  generalize idxP pr xs = r at hcon ⊢
  go_enter Tryz.func74, Tryz.ntmps74
  go_wp2_with (go_at_call 101; refine hcon.mono ?_; rintro e w' ⟨rfl, hb'⟩)
  go_ret
  exact ⟨rfl, hb'⟩
set_option maxHeartbeats 2000000 in
theorem idxI_sgn (p : Option Addr) (cap : Nat) (ok : Nat → Prop) (xs : List Sg) (g : Nat) (lb : Array Value) (pr : Sg → Bool) (Inv : World → Prop) (w : World) (hw : Inv w) (hr : ∀ W, Inv W → RdX 5 (sP sgC) ok W (.slice p xs.length cap) xs) (hl : xs.length ≤ 1000000) (eg : ∀ args w, (callFunc g args).run Tryz.prog w = .ok (.enter g args) w)
    (hp : ∀ (W : World) (x : Sg), x ∈ xs → Inv W → Calls Tryz.prog g (#[.agg #[.string x.1, .string x.2.1, .string x.2.2.1, .bool x.2.2.2.1, .bool x.2.2.2.2]] ++ lb) W fun e w' => e = .returned (.bool (pr x)) ∧ Inv w') :
    Calls Tryz.prog 103 #[.slice p xs.length cap, .func (.func g) #[] lb] w fun e w' => e = .returned (.int .i64 (idxP pr xs)) ∧ Inv w' := by
  have HR := Lib.hid hr
  have HP := Lib.hid hp
  have HW := Lib.hid hw
  clear hr hp hw
  go_enter Tryz.func103, Tryz.ntmps103
  go_wp2_with fail
  go_loopg [5, 8] xs.length (fun gg _ s8 wr => ∃ i : Nat, i ≤ xs.length ∧ xs.length - i ≤ gg ∧ s8 = .int .i64 (i : Int) ∧ Hid (Inv wr) ∧ Hid (∀ j y, j < i → xs[j]? = some y → pr y = false))
  case atStart => exact ⟨0, by omega, by omega, rfl, HW, Lib.hid (fun j y h => absurd h (Nat.not_lt_zero _))⟩
  case round =>
    obtain ⟨i, hi, hg, rfl, HI, HA⟩ := hrel
    clear HW
    by_cases hlt : i < xs.length
    · obtain ⟨x, hx⟩ : ∃ x, xs[i]? = some x := ⟨_, List.getElem?_eq_getElem hlt⟩
      have hlt' : (i : Int) < (xs.length : Int) := by omega
      have i0 : (0 : Int) ≤ (i : Int) := by omega
      have hne : xs ≠ [] := by rintro rfl; simp at hlt
      obtain ⟨b, off, rfl, -, -, hBb, hbl, hcells⟩ := (HR.out wr HI.out).place hne
      obtain ⟨l, rfl, hcell⟩ := hcells _ _ hx
      obtain ⟨y0, y1, y2, y3, y4⟩ := five_at (show CellsAt wr b (off + i * 5) [.string x.1, .string x.2.1, .string x.2.2.1, .bool x.2.2.2.1, .bool x.2.2.2.2] from hcell)
      have hmem := List.mem_of_getElem? hx
      have hcall := HP.out wr x hmem HI.out
      have HX := Lib.hid hx
      clear hcells hcell hne hx hmem hBb
      cases hq : pr x with
      | true =>
        rw [hq] at hcall
        go_wp2_with (go_at_fn g; refine hcall.mono ?_; rintro e w' ⟨rfl, hb'⟩)
        go_ret
        exact ⟨by rw [idx_hit HX.out hq HA.out]; rfl, hb'⟩
      | false =>
        rw [hq] at hcall
        go_wp2_with (go_at_fn g; refine hcall.mono ?_; rintro e w' ⟨rfl, hb'⟩)
        go_roundg (xs.length - (i + 1))
        case measure => omega
        case rel =>
          refine ⟨i + 1, by omega, by omega, by go_num, Lib.hid hb', Lib.hid (fun j y hj hy => ?_)⟩
          by_cases e : j = i
          · subst e
            have := HX.out
            rw [hy] at this
            cases this
            exact hq
          · exact HA.out j y (by omega) hy
    · have hlt' : ¬ (i : Int) < (xs.length : Int) := by omega
      obtain rfl : i = xs.length := by omega
      go_wp2_with fail
      go_ret
      exact ⟨by rw [idx_miss HA.out]; rfl, HI.out⟩
set_option maxHeartbeats 2000000 in
theorem hasI_sgn (p : Option Addr) (cap : Nat) (ok : Nat → Prop) (xs : List Sg) (g : Nat) (lb : Array Value) (pr : Sg → Bool) (Inv : World → Prop) (w : World) (hw : Inv w) (hr : ∀ W, Inv W → RdX 5 (sP sgC) ok W (.slice p xs.length cap) xs) (hl : xs.length ≤ 1000000) (eg : ∀ args w, (callFunc g args).run Tryz.prog w = .ok (.enter g args) w)
    (hp : ∀ (W : World) (x : Sg), x ∈ xs → Inv W → Calls Tryz.prog g (#[.agg #[.string x.1, .string x.2.1, .string x.2.2.1, .bool x.2.2.2.1, .bool x.2.2.2.2]] ++ lb) W fun e w' => e = .returned (.bool (pr x)) ∧ Inv w') :
    Calls Tryz.prog 79 #[.slice p xs.length cap, .func (.func g) #[] lb] w fun e w' => e = .returned (.bool (xs.any pr)) ∧ Inv w' := by
  rw [← idx_any]
  have hcon := idxI_sgn p cap ok xs g lb pr Inv w hw hr hl eg hp
  clear hr hp hw
  generalize idxP pr xs = r at hcon ⊢
  go_enter Tryz.func79, Tryz.ntmps79
  go_wp2_with (go_at_call 103; refine hcon.mono ?_; rintro e w' ⟨rfl, hb'⟩)
  go_ret
  exact ⟨rfl, hb'⟩
set_option maxHeartbeats 2000000 in
theorem idxI_mth (p : Option Addr) (cap : Nat) (ok : Nat → Prop) (xs : List Mth) (g : Nat) (lb : Array Value) (pr : Mth → Bool) (Inv : World → Prop) (w : World) (hw : Inv w) (hr : ∀ W, Inv W → RdX 9 mP ok W (.slice p xs.length cap) xs) (hl : xs.length ≤ 1000000) (eg : ∀ args w, (callFunc g args).run Tryz.prog w = .ok (.enter g args) w)
    (hp : ∀ (W : World) (x : Mth) (pp pc ph : Option Addr) (np cp nc cc nh ch : Nat), x ∈ xs → Inv W → mP ok W [.string x.name, .slice pp np cp, .int .i64 x.ret.1, .string x.ret.2, .bool x.st, .bool x.ab, .int .i64 x.locals, .slice pc nc cc, .slice ph nh ch] x → Calls Tryz.prog g (#[.agg #[.string x.name, .slice pp np cp, .int .i64 x.ret.1, .string x.ret.2, .bool x.st, .bool x.ab, .int .i64 x.locals, .slice pc nc cc, .slice ph nh ch]] ++ lb) W fun e w' => e = .returned (.bool (pr x)) ∧ Inv w') :
    Calls Tryz.prog 102 #[.slice p xs.length cap, .func (.func g) #[] lb] w fun e w' => e = .returned (.int .i64 (idxP pr xs)) ∧ Inv w' := by
  have HR := Lib.hid hr
  have HP := Lib.hid hp
  have HW := Lib.hid hw
  clear hr hp hw
  go_enter Tryz.func102, Tryz.ntmps102
  go_wp2_with fail
  go_loopg [5, 8] xs.length (fun gg _ s8 wr => ∃ i : Nat, i ≤ xs.length ∧ xs.length - i ≤ gg ∧ s8 = .int .i64 (i : Int) ∧ Hid (Inv wr) ∧ Hid (∀ j y, j < i → xs[j]? = some y → pr y = false))
  case atStart => exact ⟨0, by omega, by omega, rfl, HW, Lib.hid (fun j y h => absurd h (Nat.not_lt_zero _))⟩
  case round =>
    obtain ⟨i, hi, hg, rfl, HI, HA⟩ := hrel
    clear HW
    by_cases hlt : i < xs.length
    · obtain ⟨x, hx⟩ : ∃ x, xs[i]? = some x := ⟨_, List.getElem?_eq_getElem hlt⟩
      have hlt' : (i : Int) < (xs.length : Int) := by omega
      have i0 : (0 : Int) ≤ (i : Int) := by omega
      have hne : xs ≠ [] := by rintro rfl; simp at hlt
      obtain ⟨b, off, rfl, -, -, hBb, hbl, hcells⟩ := (HR.out wr HI.out).place hne
      obtain ⟨l, ⟨vp, vc, vh, rfl, k1, k2, k3⟩, hcell⟩ := hcells _ _ hx
      obtain ⟨pp, cp, rfl, -⟩ := k1.len
      obtain ⟨pc, cc, rfl, -⟩ := k2.len
      obtain ⟨ph, ch, rfl, -⟩ := k3.len
      obtain ⟨y0, y1, y2, y3, y4, y5, y6, y7, y8⟩ := (show CellsAt wr b (off + i * 9) _ from hcell).nine
      have hmem := List.mem_of_getElem? hx
      have hcall := HP.out wr x _ _ _ _ _ _ _ _ _ hmem HI.out ⟨_, _, _, rfl, k1, k2, k3⟩
      have HX := Lib.hid hx
      clear hcells hcell hne hx hmem hBb k1 k2 k3
      cases hq : pr x with
      | true =>
        rw [hq] at hcall
        go_wp2_with (go_at_fn g; refine hcall.mono ?_; rintro e w' ⟨rfl, hb'⟩)
        go_ret
        exact ⟨by rw [idx_hit HX.out hq HA.out]; rfl, hb'⟩
      | false =>
        rw [hq] at hcall
        go_wp2_with (go_at_fn g; refine hcall.mono ?_; rintro e w' ⟨rfl, hb'⟩)
        go_roundg (xs.length - (i + 1))
        case measure => omega
        case rel =>
          refine ⟨i + 1, by omega, by omega, by go_num, Lib.hid hb', Lib.hid (fun j y hj hy => ?_)⟩
          by_cases e : j = i
          · subst e
            have := HX.out
            rw [hy] at this
            cases this
            exact hq
          · exact HA.out j y (by omega) hy
    · have hlt' : ¬ (i : Int) < (xs.length : Int) := by omega
      obtain rfl : i = xs.length := by omega
      go_wp2_with fail
      go_ret
      exact ⟨by rw [idx_miss HA.out]; rfl, HI.out⟩
set_option maxHeartbeats 2000000 in
theorem hasI_mth (p : Option Addr) (cap : Nat) (ok : Nat → Prop) (xs : List Mth) (g : Nat) (lb : Array Value) (pr : Mth → Bool) (Inv : World → Prop) (w : World) (hw : Inv w) (hr : ∀ W, Inv W → RdX 9 mP ok W (.slice p xs.length cap) xs) (hl : xs.length ≤ 1000000) (eg : ∀ args w, (callFunc g args).run Tryz.prog w = .ok (.enter g args) w)
    (hp : ∀ (W : World) (x : Mth) (pp pc ph : Option Addr) (np cp nc cc nh ch : Nat), x ∈ xs → Inv W → mP ok W [.string x.name, .slice pp np cp, .int .i64 x.ret.1, .string x.ret.2, .bool x.st, .bool x.ab, .int .i64 x.locals, .slice pc nc cc, .slice ph nh ch] x → Calls Tryz.prog g (#[.agg #[.string x.name, .slice pp np cp, .int .i64 x.ret.1, .string x.ret.2, .bool x.st, .bool x.ab, .int .i64 x.locals, .slice pc nc cc, .slice ph nh ch]] ++ lb) W fun e w' => e = .returned (.bool (pr x)) ∧ Inv w') :
    Calls Tryz.prog 75 #[.slice p xs.length cap, .func (.func g) #[] lb] w fun e w' => e = .returned (.bool (xs.any pr)) ∧ Inv w' := by
  rw [← idx_any]
  have hcon := idxI_mth p cap ok xs g lb pr Inv w hw hr hl eg hp
  clear hr hp hw
  generalize idxP pr xs = r at hcon ⊢
  go_enter Tryz.func75, Tryz.ntmps75
  go_wp2_with (go_at_call 102; refine hcon.mono ?_; rintro e w' ⟨rfl, hb'⟩)
  go_ret
  exact ⟨rfl, hb'⟩
end Go.Proofs.YtlmpnmnfloeoiaaGreat.R
namespace Go.Proofs.YtlmpnmnfloeoiaaGreat.R
open Go.RowKit Go.Proofs.YtlmpnmnfloeoiaaGreat.D Go.Proofs.YtlmpnmnfloeoiaaGreat.O Go.Proofs.YtlmpnmnfloeoiaaGreat.A
abbrev uK : Unit → Value := fun _ => .agg #[]
abbrev Us (w : World) (b : Nat) (L : List ByteArray) : Prop := S.Mv 9 S.qS S.okS uK (fun _ _ => True) w b L
theorem kdS : S.Kd 9 S.cS S.qS S.okS := S.elS.kd
theorem once_map {α : Type} (f : α → ByteArray) {l : List α} {i : Nat} {x : α} (h : l[i]? = some x) : S.onceL ((l.take (i + 1)).map f) = S.addS (S.onceL ((l.take i).map f)) (f x) := by
  rw [take_snoc h, List.map_append]
  exact S.onceL_snoc _ _
set_option maxHeartbeats 2000000 in
set_option maxRecDepth 100000 in
theorem twice_str (p : Option Addr) (cap : Nat) (ok : Nat → Prop) (xs : List ByteArray) (g : Nat) (kf : ByteArray → ByteArray) (w : World) (hr : RdX 1 (sP strC) ok w (.slice p xs.length cap) xs) (hl : xs.length ≤ 1000000) (hs : ∀ x ∈ xs, (kf x).size ≤ maxLen) (eg : ∀ args w, (callFunc g args).run Tryz.prog w = .ok (.enter g args) w)
    (hp : ∀ (W : World) (x : ByteArray), x ∈ xs → Below w.heap.size w W → Calls Tryz.prog g #[.string x] W fun e w' => e = .returned (.string (kf x)) ∧ Below W.heap.size W w') :
    Calls Tryz.prog 62 #[.slice p xs.length cap, .func (.func g) #[] #[]] w fun e w' => e = .returned (.bool (twiceB (xs.map kf))) ∧ Below w.heap.size w w' := by
  have HR := Lib.hid hr
  have HP := Lib.hid hp
  have HS := Lib.hid hs
  clear hr hp hs
  have hmm := @run_makeMap Tryz.prog
  go_enter Tryz.func62, Tryz.ntmps62
  go_wp2_with fail
  have H0 : Hid (Us (w.alloc (.map #[] 0)) w.heap.size (S.onceL ((xs.take 0).map kf))) := Lib.hid (S.Mv.made w)
  have B0 : Hid (Below w.heap.size w (w.alloc (.map #[] 0))) := Lib.hid (below_alR _ _)
  obtain ⟨mb, hmb⟩ : ∃ x, x = w.heap.size := ⟨_, rfl⟩
  have hmW : w.heap.size ≤ mb := by omega
  rw [← hmb] at H0
  obtain ⟨w0, hw0⟩ : ∃ x, x = w.alloc (.map #[] 0) := ⟨_, rfl⟩
  rw [← hw0] at H0 B0 ⊢
  try rw [← hmb]
  clear hw0 hmb hmm
  go_loopw [11] (fun v wr => ∃ i : Nat, v = .int .i64 (i : Int) ∧ i ≤ xs.length ∧ Hid (Us wr mb (S.onceL ((xs.take i).map kf))) ∧ Hid (Below w.heap.size w wr)) (fun v _ => xs.length - (intOf v).toNat)
  case atStart => exact ⟨0, rfl, by omega, H0, B0⟩
  case round =>
    clear H0 B0
    obtain ⟨i, rfl, hi, HU, HB⟩ := hrel
    by_cases hlt : i < xs.length
    · obtain ⟨x, hx⟩ : ∃ x, xs[i]? = some x := ⟨_, List.getElem?_eq_getElem hlt⟩
      have hlt' : (i : Int) < (xs.length : Int) := by omega
      have i0 : (0 : Int) ≤ (i : Int) := by omega
      have hne : xs ≠ [] := by rintro rfl; simp at hlt
      obtain ⟨b, off, rfl, -, -, hBb, hbl, hcells⟩ := (HR.out.any (sP.grow _) HB.out).place hne
      obtain ⟨l, rfl, hcell⟩ := hcells _ _ hx
      have y0 := CellsAt.one (show CellsAt wr b (off + i * 1) [.string x] from hcell)
      rw [Nat.mul_one] at y0
      have hmem := List.mem_of_getElem? hx
      have HX := Lib.hid (once_map kf hx)
      have hsz := HS.out x hmem
      have hbn : b ≠ wr.heap.size := by omega
      have hul := S.onceL_len ((xs.take i).map kf)
      rw [List.length_map, List.length_take] at hul
      clear hcells hcell hne hx hBb
      go_wp2_with first
        | (go_at_fn g; refine (HP.out _ x hmem HB.out).mono ?_; rintro e w' ⟨rfl, hb'⟩; have hbw := hb'; have HU2 := Lib.hid (HU.out.kpt (S.Kpt.of_below (S := []) hbw) (by simp)); have HB2 := Lib.hid (HB.out.trans (hbw.mono HB.out.size)); have hul2 := hul; clear hb' hbw)
        | (at_mapUpdate; refine S.wp_storeV kdS Tryz.underlying59 rfl _ _ _ rfl mb _ rfl HU2.out (kf x) () hsz rfl rfl trivial (by omega) ?_; intro w3 hm3 hg3; have HU3 := Lib.hid hm3; have HB3 : Hid (Below w.heap.size w w3) := Lib.hid (HB2.out.trans ((S.Kpt.of_grown (S := [mb]) hg3 (fun z e => by cases e; exact .inl (by simp))).below (fun y hy => by rw [List.mem_singleton.1 hy]; exact hmW) HB2.out.size)); clear hm3 hg3)
      go_roundw
      case rel => exact ⟨i + 1, by go_num, by omega, by rw [HX.out]; exact HU3, HB3⟩
      case measure => simp [intOf]; omega
    · have hlt' : ¬ (i : Int) < (xs.length : Int) := by omega
      obtain rfl : i = xs.length := by omega
      rw [List.take_length] at HU
      have hlen := HU.out.len Tryz.underlying59
      have HT : Hid (twiceB (xs.map kf) = decide ((S.onceL (xs.map kf)).length < xs.length)) := Lib.hid (by unfold twiceB; rw [List.length_map])
      obtain ⟨n, hn⟩ : ∃ n, (S.onceL (xs.map kf)).length = n := ⟨_, rfl⟩
      rw [hn] at hlen HT
      clear hn
      go_wp2_with fail
      go_ret
      exact ⟨by rw [HT.out]; rfl, HB.out⟩
set_option maxHeartbeats 2000000 in
set_option maxRecDepth 100000 in
theorem twice_fld (p : Option Addr) (cap : Nat) (ok : Nat → Prop) (xs : List Fld) (g : Nat) (kf : Fld → ByteArray) (w : World) (hr : RdX 4 (sP fldC) ok w (.slice p xs.length cap) xs) (hl : xs.length ≤ 1000000) (hs : ∀ x ∈ xs, (kf x).size ≤ maxLen) (eg : ∀ args w, (callFunc g args).run Tryz.prog w = .ok (.enter g args) w)
    (hp : ∀ (W : World) (x : Fld), x ∈ xs → Below w.heap.size w W → Calls Tryz.prog g #[.agg #[.string x.1, .int .i64 x.2.1.1, .string x.2.1.2, .bool x.2.2]] W fun e w' => e = .returned (.string (kf x)) ∧ Below W.heap.size W w') :
    Calls Tryz.prog 71 #[.slice p xs.length cap, .func (.func g) #[] #[]] w fun e w' => e = .returned (.bool (twiceB (xs.map kf))) ∧ Below w.heap.size w w' := by
  have HR := Lib.hid hr
  have HP := Lib.hid hp
  have HS := Lib.hid hs
  clear hr hp hs
  have hmm := @run_makeMap Tryz.prog
  go_enter Tryz.func71, Tryz.ntmps71
  go_wp2_with fail
  have H0 : Hid (Us (w.alloc (.map #[] 0)) w.heap.size (S.onceL ((xs.take 0).map kf))) := Lib.hid (S.Mv.made w)
  have B0 : Hid (Below w.heap.size w (w.alloc (.map #[] 0))) := Lib.hid (below_alR _ _)
  obtain ⟨mb, hmb⟩ : ∃ x, x = w.heap.size := ⟨_, rfl⟩
  have hmW : w.heap.size ≤ mb := by omega
  rw [← hmb] at H0
  obtain ⟨w0, hw0⟩ : ∃ x, x = w.alloc (.map #[] 0) := ⟨_, rfl⟩
  rw [← hw0] at H0 B0 ⊢
  try rw [← hmb]
  clear hw0 hmb hmm
  go_loopw [11] (fun v wr => ∃ i : Nat, v = .int .i64 (i : Int) ∧ i ≤ xs.length ∧ Hid (Us wr mb (S.onceL ((xs.take i).map kf))) ∧ Hid (Below w.heap.size w wr)) (fun v _ => xs.length - (intOf v).toNat)
  case atStart => exact ⟨0, rfl, by omega, H0, B0⟩
  case round =>
    clear H0 B0
    obtain ⟨i, rfl, hi, HU, HB⟩ := hrel
    by_cases hlt : i < xs.length
    · obtain ⟨x, hx⟩ : ∃ x, xs[i]? = some x := ⟨_, List.getElem?_eq_getElem hlt⟩
      have hlt' : (i : Int) < (xs.length : Int) := by omega
      have i0 : (0 : Int) ≤ (i : Int) := by omega
      have hne : xs ≠ [] := by rintro rfl; simp at hlt
      obtain ⟨b, off, rfl, -, -, hBb, hbl, hcells⟩ := (HR.out.any (sP.grow _) HB.out).place hne
      obtain ⟨l, rfl, hcell⟩ := hcells _ _ hx
      obtain ⟨y0, y1, y2, y3⟩ := CellsAt.four (show CellsAt wr b (off + i * 4) [.string x.1, .int .i64 x.2.1.1, .string x.2.1.2, .bool x.2.2] from hcell)
      have hmem := List.mem_of_getElem? hx
      have HX := Lib.hid (once_map kf hx)
      have hsz := HS.out x hmem
      have hbn : b ≠ wr.heap.size := by omega
      have hul := S.onceL_len ((xs.take i).map kf)
      rw [List.length_map, List.length_take] at hul
      clear hcells hcell hne hx hBb
      go_wp2_with first
        | (go_at_fn g; refine (HP.out _ x hmem (HB.out.alloc HB.out.size _)).mono ?_; rintro e w' ⟨rfl, hb'⟩; have hbw := ((below_alR _ _).trans (hb'.mono (by simp))); have HU2 := Lib.hid (HU.out.kpt (S.Kpt.of_below (S := []) hbw) (by simp)); have HB2 := Lib.hid (HB.out.trans (hbw.mono HB.out.size)); have hul2 := hul; clear hb' hbw)
        | (at_mapUpdate; refine S.wp_storeV kdS Tryz.underlying59 rfl _ _ _ rfl mb _ rfl HU2.out (kf x) () hsz rfl rfl trivial (by omega) ?_; intro w3 hm3 hg3; have HU3 := Lib.hid hm3; have HB3 : Hid (Below w.heap.size w w3) := Lib.hid (HB2.out.trans ((S.Kpt.of_grown (S := [mb]) hg3 (fun z e => by cases e; exact .inl (by simp))).below (fun y hy => by rw [List.mem_singleton.1 hy]; exact hmW) HB2.out.size)); clear hm3 hg3)
      go_roundw
      case rel => exact ⟨i + 1, by go_num, by omega, by rw [HX.out]; exact HU3, HB3⟩
      case measure => simp [intOf]; omega
    · have hlt' : ¬ (i : Int) < (xs.length : Int) := by omega
      obtain rfl : i = xs.length := by omega
      rw [List.take_length] at HU
      have hlen := HU.out.len Tryz.underlying59
      have HT : Hid (twiceB (xs.map kf) = decide ((S.onceL (xs.map kf)).length < xs.length)) := Lib.hid (by unfold twiceB; rw [List.length_map])
      obtain ⟨n, hn⟩ : ∃ n, (S.onceL (xs.map kf)).length = n := ⟨_, rfl⟩
      rw [hn] at hlen HT
      clear hn
      go_wp2_with fail
      go_ret
      exact ⟨by rw [HT.out]; rfl, HB.out⟩
set_option maxHeartbeats 2000000 in
set_option maxRecDepth 100000 in
theorem twice_mth (p : Option Addr) (cap : Nat) (ok : Nat → Prop) (xs : List Mth) (g : Nat) (kf : Mth → ByteArray) (w : World) (hr : RdX 9 mP ok w (.slice p xs.length cap) xs) (hl : xs.length ≤ 1000000) (hs : ∀ x ∈ xs, (kf x).size ≤ maxLen) (eg : ∀ args w, (callFunc g args).run Tryz.prog w = .ok (.enter g args) w)
    (hp : ∀ (W : World) (x : Mth) (pp pc ph : Option Addr) (np cp nc cc nh ch : Nat), x ∈ xs → Below w.heap.size w W → mP ok W [.string x.name, .slice pp np cp, .int .i64 x.ret.1, .string x.ret.2, .bool x.st, .bool x.ab, .int .i64 x.locals, .slice pc nc cc, .slice ph nh ch] x → Calls Tryz.prog g #[.agg #[.string x.name, .slice pp np cp, .int .i64 x.ret.1, .string x.ret.2, .bool x.st, .bool x.ab, .int .i64 x.locals, .slice pc nc cc, .slice ph nh ch]] W fun e w' => e = .returned (.string (kf x)) ∧ Below W.heap.size W w') :
    Calls Tryz.prog 76 #[.slice p xs.length cap, .func (.func g) #[] #[]] w fun e w' => e = .returned (.bool (twiceB (xs.map kf))) ∧ Below w.heap.size w w' := by
  have HR := Lib.hid hr
  have HP := Lib.hid hp
  have HS := Lib.hid hs
  clear hr hp hs
  have hmm := @run_makeMap Tryz.prog
  go_enter Tryz.func76, Tryz.ntmps76
  go_wp2_with fail
  have H0 : Hid (Us (w.alloc (.map #[] 0)) w.heap.size (S.onceL ((xs.take 0).map kf))) := Lib.hid (S.Mv.made w)
  have B0 : Hid (Below w.heap.size w (w.alloc (.map #[] 0))) := Lib.hid (below_alR _ _)
  obtain ⟨mb, hmb⟩ : ∃ x, x = w.heap.size := ⟨_, rfl⟩
  have hmW : w.heap.size ≤ mb := by omega
  rw [← hmb] at H0
  obtain ⟨w0, hw0⟩ : ∃ x, x = w.alloc (.map #[] 0) := ⟨_, rfl⟩
  rw [← hw0] at H0 B0 ⊢
  try rw [← hmb]
  clear hw0 hmb hmm
  go_loopw [11] (fun v wr => ∃ i : Nat, v = .int .i64 (i : Int) ∧ i ≤ xs.length ∧ Hid (Us wr mb (S.onceL ((xs.take i).map kf))) ∧ Hid (Below w.heap.size w wr)) (fun v _ => xs.length - (intOf v).toNat)
  case atStart => exact ⟨0, rfl, by omega, H0, B0⟩
  case round =>
    clear H0 B0
    obtain ⟨i, rfl, hi, HU, HB⟩ := hrel
    by_cases hlt : i < xs.length
    · obtain ⟨x, hx⟩ : ∃ x, xs[i]? = some x := ⟨_, List.getElem?_eq_getElem hlt⟩
      have hlt' : (i : Int) < (xs.length : Int) := by omega
      have i0 : (0 : Int) ≤ (i : Int) := by omega
      have hne : xs ≠ [] := by rintro rfl; simp at hlt
      obtain ⟨b, off, rfl, -, -, hBb, hbl, hcells⟩ := (HR.out.any mP.grow HB.out).place hne
      obtain ⟨l, ⟨vp, vc, vh, rfl, k1, k2, k3⟩, hcell⟩ := hcells _ _ hx
      obtain ⟨pp, cp, rfl, -⟩ := k1.len
      obtain ⟨pc, cc, rfl, -⟩ := k2.len
      obtain ⟨ph, ch, rfl, -⟩ := k3.len
      obtain ⟨y0, y1, y2, y3, y4, y5, y6, y7, y8⟩ := (show CellsAt wr b (off + i * 9) _ from hcell).nine
      have K1 := Lib.hid k1
      have K2 := Lib.hid k2
      have K3 := Lib.hid k3
      clear k1 k2 k3
      have hmem := List.mem_of_getElem? hx
      have HX := Lib.hid (once_map kf hx)
      have hsz := HS.out x hmem
      have hbn : b ≠ wr.heap.size := by omega
      have hul := S.onceL_len ((xs.take i).map kf)
      rw [List.length_map, List.length_take] at hul
      clear hcells hcell hne hx hBb
      go_wp2_with first
        | (go_at_fn g; refine (HP.out _ x _ _ _ _ _ _ _ _ _ hmem (HB.out.alloc HB.out.size _) ⟨_, _, _, rfl, K1.out.any (sP.grow _) (below_alR _ _), K2.out.any (sP.grow _) (below_alR _ _), K3.out.any (sP.grow _) (below_alR _ _)⟩).mono ?_; rintro e w' ⟨rfl, hb'⟩; have hbw := ((below_alR _ _).trans (hb'.mono (by simp))); have HU2 := Lib.hid (HU.out.kpt (S.Kpt.of_below (S := []) hbw) (by simp)); have HB2 := Lib.hid (HB.out.trans (hbw.mono HB.out.size)); have hul2 := hul; clear hb' hbw)
        | (at_mapUpdate; refine S.wp_storeV kdS Tryz.underlying59 rfl _ _ _ rfl mb _ rfl HU2.out (kf x) () hsz rfl rfl trivial (by omega) ?_; intro w3 hm3 hg3; have HU3 := Lib.hid hm3; have HB3 : Hid (Below w.heap.size w w3) := Lib.hid (HB2.out.trans ((S.Kpt.of_grown (S := [mb]) hg3 (fun z e => by cases e; exact .inl (by simp))).below (fun y hy => by rw [List.mem_singleton.1 hy]; exact hmW) HB2.out.size)); clear hm3 hg3)
      go_roundw
      case rel => exact ⟨i + 1, by go_num, by omega, by rw [HX.out]; exact HU3, HB3⟩
      case measure => simp [intOf]; omega
    · have hlt' : ¬ (i : Int) < (xs.length : Int) := by omega
      obtain rfl : i = xs.length := by omega
      rw [List.take_length] at HU
      have hlen := HU.out.len Tryz.underlying59
      have HT : Hid (twiceB (xs.map kf) = decide ((S.onceL (xs.map kf)).length < xs.length)) := Lib.hid (by unfold twiceB; rw [List.length_map])
      obtain ⟨n, hn⟩ : ∃ n, (S.onceL (xs.map kf)).length = n := ⟨_, rfl⟩
      rw [hn] at hlen HT
      clear hn
      go_wp2_with fail
      go_ret
      exact ⟨by rw [HT.out]; rfl, HB.out⟩
end Go.Proofs.YtlmpnmnfloeoiaaGreat.R
namespace Go.Proofs.YtlmpnmnfloeoiaaGreat.R
open Go.RowKit Go.Proofs.YtlmpnmnfloeoiaaGreat.D Go.Proofs.YtlmpnmnfloeoiaaGreat.O Go.Proofs.YtlmpnmnfloeoiaaGreat.A
abbrev Fv : Type := Int × Option Addr × Nat × Nat
abbrev fmk : Fv → Value := fun v => .agg #[.int .i64 v.1, .slice v.2.1 v.2.2.1 v.2.2.2]
def okSg (w : World) (b : Nat) : Prop := ∃ cs fr, w.heap[b]? = some (.cells cs 104 fr)
def FaceV (w : World) (K : List Cls) (n : ByteArray) (v : Fv) : Prop :=
  v.1 = (clsK K n).kind ∧ v.2.2.1 = (sgsK K n).length ∧ RdX 5 (sP sgC) (okSg w) w (.slice v.2.1 v.2.2.1 v.2.2.2) (sgsK K n)
theorem FaceV.kpt {w w' : World} {K : List Cls} {n : ByteArray} {v : Fv} {Sx : List Nat} (h : FaceV w K n v) (hk : S.Kpt Sx w w') (hS : ∀ x ∈ Sx, ¬ okSg w x) : FaceV w' K n v := by
  have kk : ∀ b, okSg w b → b < w.heap.size → w'.heap[b]? = w.heap[b]? := fun b hb hl => hk.2 b hl (fun hx => hS b hx hb)
  exact ⟨h.1, h.2.1, h.2.2.step (sP.grow _) (fun b hb hl => by obtain ⟨cs, fr, e⟩ := hb; exact ⟨cs, fr, (kk b ⟨cs, fr, e⟩ hl).trans e⟩) kk hk.size⟩
theorem own_sg {w : World} {B : Nat} {v : Value} {ss : List Sg} (h : OwnX 5 104 (sP sgC) w B v ss) : RdX 5 (sP sgC) (okSg w) w v ss := by
  obtain ⟨p, cap, rfl, h1, h2, h3⟩ := h.rd (sP.grow _)
  refine ⟨p, cap, rfl, h1, h2, h3.imp_right ?_⟩
  rintro ⟨b, off, rfl, h5, h6, h7⟩
  refine ⟨b, off, rfl, ?_, h6, h7⟩
  obtain ⟨cs, hrow, _⟩ := h
  rcases hrow.2 with ⟨e, _⟩ | ⟨g, cap', cur, e, _, hg, _⟩
  · simp at e
  · simp only [Value.slice.injEq, Option.some.injEq, Addr.mk.injEq] at e
    obtain ⟨⟨rfl, _⟩, _⟩ := e
    exact ⟨_, _, hg⟩
theorem not_sg {w : World} {b : Nat} {o : Obj} (h : w.heap[b]? = some o) (ho : ∀ cs fr, o ≠ .cells cs 104 fr) : ¬ okSg w b := by
  rintro ⟨cs, fr, e⟩
  rw [h] at e
  exact ho cs fr (Option.some.inj e)
def askL (K : List Cls) : List ByteArray := allN (K.map skOf) ++ K.map (·.super)
def AskH (K : List Cls) : Prop := (∀ c ∈ K, FewC c) ∧ (∀ n, (clsK K n).methods.length ≤ 40 ∧ ∀ m ∈ (clsK K n).methods, SzM m ∧ m.name.size ≤ 1000000) ∧ K.length ≤ 100
def LkW (w : World) (N lb fb tb mt : Nat) (vs : Value) (K : List Cls) : Prop :=
  TrW w (fun b => b < N) tb mt vs K ∧ w.heap[lb]? = some (.cells #[.pointer (some ⟨tb, 0, none⟩), .map (some fb)] 91 (0, 0)) ∧ N ≤ lb ∧ N ≤ fb ∧
    ∃ L, (∀ x ∈ L, x ∈ askL K) ∧ S.Mv 9 S.qS S.okS fmk (FaceV w K) w fb L
theorem LkW.cells {w : World} {N lb fb tb mt : Nat} {vs : Value} {K : List Cls} (h : LkW w N lb fb tb mt vs K) :
    lb < w.heap.size ∧ fb < w.heap.size ∧ lb ≠ fb ∧ w.cell? ⟨lb, 0, none⟩ = some (.pointer (some ⟨tb, 0, none⟩)) ∧ w.cell? ⟨lb, 1, none⟩ = some (.map (some fb)) := by
  obtain ⟨_, h1, _, _, L, _, hm⟩ := h
  obtain ⟨es, k, h2⟩ := hm.map
  refine ⟨(Array.getElem?_eq_some_iff.1 h1).1, hm.lt, ?_, by simp [World.cell?, h1], by simp [World.cell?, h1]⟩
  rintro rfl
  rw [h1] at h2
  cases h2
theorem LkW.notSg {w : World} {N lb fb tb mt : Nat} {vs : Value} {K : List Cls} (h : LkW w N lb fb tb mt vs K) : ¬ okSg w fb := by
  obtain ⟨_, _, _, _, L, _, hm⟩ := h
  obtain ⟨es, k, h2⟩ := hm.map
  exact not_sg h2 (fun _ _ e => by cases e)
theorem TrW.kptS {w w' : World} {ok : Nat → Prop} {tb mb : Nat} {vs : Value} {K : List Cls} {Sx : List Nat} (h : TrW w ok tb mb vs K) (hk : S.Kpt Sx w w') (hS : ∀ b, ok b → b ∉ Sx) : TrW w' ok tb mb vs K := by
  obtain ⟨h1, h2, h3, h4, h5, h6⟩ := h
  have kk : Keeps ok w w' := fun b hb hl => hk.2 b hl (hS b hb)
  refine ⟨h1, h2, (hk.2 _ (Array.getElem?_eq_some_iff.1 h3).1 (hS _ h1)).trans h3, h4.step cP.grow (fun _ h _ => h) kk hk.size, ?_, h6⟩
  exact h5.kpt (⟨hk.1, hk.2⟩ : Kpt Sx w w') (hS _ h2)
theorem LkW.kpt {w w' : World} {N lb fb tb mt : Nat} {vs : Value} {K : List Cls} {Sx : List Nat} (h : LkW w N lb fb tb mt vs K) (hk : S.Kpt Sx w w') (hS : ∀ x ∈ Sx, N ≤ x ∧ x ≠ lb ∧ x ≠ fb ∧ ¬ okSg w x) : LkW w' N lb fb tb mt vs K := by
  obtain ⟨h1, h2, h3, h6, L, h4, h5⟩ := h
  refine ⟨h1.kptS hk (fun b hb hx => by have := (hS b hx).1; omega), hk.block h2 (fun hx => (hS lb hx).2.1 rfl), h3, h6, L, h4, (h5.kpt hk (fun hx => (hS fb hx).2.2.1 rfl)).imp fun x v _ hv => hv.kpt hk (fun x hx => (hS x hx).2.2.2)⟩
theorem LkW.below {w w' : World} {N lb fb tb mt : Nat} {vs : Value} {K : List Cls} (h : LkW w N lb fb tb mt vs K) (hb : Below w.heap.size w w') : LkW w' N lb fb tb mt vs K := h.kpt (S.Kpt.of_below (S := []) hb) (fun x hx => by cases hx)
theorem LkW.store {w w' : World} {N lb fb tb mt : Nat} {vs : Value} {K : List Cls} (h : LkW w N lb fb tb mt vs K) {L : List ByteArray} (hL : ∀ x ∈ L, x ∈ askL K) (hm : S.Mv 9 S.qS S.okS fmk (FaceV w K) w' fb L) (hg : w.grownBy w' (some fb)) : LkW w' N lb fb tb mt vs K := by
  have hc := h.cells
  have hn := h.notSg
  have k : S.Kpt [fb] w w' := .of_grown hg (fun g e => by cases e; exact .inl (by simp))
  obtain ⟨h1, h2, h3, h6, -⟩ := h
  exact ⟨h1.kptS k (fun b hb => by simp; omega), k.block h2 (by simpa using hc.2.2.1), h3, h6, L, hL, hm.imp fun x v _ hv => hv.kpt k (fun x hx => by rw [List.mem_singleton.1 hx]; exact hn)⟩
theorem LkW.ask {w : World} {N lb fb tb mt : Nat} {vs : Value} {K : List Cls} (h : LkW w N lb fb tb mt vs K) : (askL K).length ≤ 3000 := by
  have := h.1.few
  unfold askL
  rw [List.length_append, allN_len, List.length_map, List.length_map]
  omega
theorem ask_known {K : List Cls} {n : ByteArray} (h : knownT (K.map skOf) n = true) : n ∈ askL K := List.mem_append_left _ (known_all h)
theorem ask_super {K : List Cls} {c : Cls} (h : c ∈ K) : c.super ∈ askL K := List.mem_append_right _ (List.mem_map.2 ⟨c, h, rfl⟩)
theorem TrW.imp {w : World} {ok ok' : Nat → Prop} {tb mb : Nat} {vs : Value} {K : List Cls} (h : TrW w ok tb mb vs K) (ho : ∀ b, ok b → ok' b) : TrW w ok' tb mb vs K :=
  ⟨ho _ h.1, ho _ h.2.1, h.2.2.1, h.2.2.2.1.step cP.grow (fun b hb _ => ho b hb) (fun _ _ _ => rfl) (Nat.le_refl _), h.2.2.2.2.1, h.2.2.2.2.2⟩
set_option maxHeartbeats 1000000 in
theorem newLook_h (ok : Nat → Prop) (tb mt : Nat) (vs : Value) (K : List Cls) (w : World) (h : TrW w ok tb mt vs K) :
    Calls Tryz.prog 15 #[.pointer (some ⟨tb, 0, none⟩)] w fun e w' => ∃ lb fb, e = .returned (.pointer (some ⟨lb, 0, none⟩)) ∧ LkW w' w.heap.size lb fb tb mt vs K ∧ Below w.heap.size w w' := by
  have hmm := @run_makeMap Tryz.prog
  have HT := Lib.hid h
  clear h
  go_enter Tryz.func15, Tryz.ntmps15
  go_wp2_with fail
  go_ret
  have hb : Below w.heap.size w ((w.alloc (.map #[] 0)).alloc (.cells #[.pointer (some ⟨tb, 0, none⟩), .map (some w.heap.size)] 91)) := ((Below.refl _ w).alloc (Nat.le_refl _) _).alloc (by simp) _
  refine ⟨_, w.heap.size, rfl, ⟨(HT.out.old hb).imp (fun b h => h.2), ?_, by simp, Nat.le_refl _, [], (fun x hx => by cases hx), (S.Mv.made w).kpt (S.Kpt.alloc [] _ _) (by simp)⟩, hb⟩
  have := heap_alloc_new (w.alloc (.map #[] 0)) (.cells #[.pointer (some ⟨tb, 0, none⟩), .map (some w.heap.size)] 91)
  simpa using this
theorem field_kind (k : Int) (p : Option Addr) (n c : Nat) (w : World) : (Instr.field 99 (.agg #[.int .i64 k, .slice p n c]) 0).run Tryz.prog w = .ok (.int .i64 k) w := by kernel_rfl
theorem field_signs (k : Int) (p : Option Addr) (n c : Nat) (w : World) : (Instr.field 99 (.agg #[.int .i64 k, .slice p n c]) 1).run Tryz.prog w = .ok (.slice p n c) w := by kernel_rfl
theorem zero_face (w : World) : (zeroValue 99).run Tryz.prog w = .ok (fmk (0, none, 0, 0)) w := by kernel_rfl
theorem cls_name_few {K : List Cls} (h : AskH K) (n : ByteArray) : (clsK K n).methods.length ≤ 100000 := Nat.le_trans (h.2.1 n).1 (by omega)
set_option maxHeartbeats 4000000 in
set_option maxRecDepth 100000 in
theorem face_h (N lb fb tb mt : Nat) (vs : Value) (K : List Cls) (n : ByteArray) (w : World) (h : LkW w N lb fb tb mt vs K) (hn : n.size ≤ maxLen) (ha : AskH K) (hq : n ∈ askL K) :
    Calls Tryz.prog 44 #[.pointer (some ⟨lb, 0, none⟩), .string n] w fun e w' => ∃ v : Fv, e = .returned (fmk v) ∧ FaceV w' K n v ∧ LkW w' N lb fb tb mt vs K ∧ S.Kpt [fb] w w' := by
  obtain ⟨L, hLa, hL⟩ := h.2.2.2.2
  have hNb := h.2.2.2.1
  have hNl := h.2.2.1
  have HK := Lib.hid h
  have HA := Lib.hid ha
  have HLA := Lib.hid hLa
  have HL := Lib.hid hL
  have HQ := Lib.hid hq
  obtain ⟨hlb, hfb, hlf, c0, c1⟩ := h.cells
  have hll : L.length ≤ 3000 := Nat.le_trans (hL.nodup.length_le_of_subset (fun x hx => hLa x hx)) h.ask
  clear h ha hLa hL hq
  have kz : S.Kpt [] w (w.alloc (.cells #[.int .i64 0, .slice none 0 0] 99)) := S.Kpt.alloc _ _ _
  by_cases hin : n ∈ L
  · obtain ⟨v, hat, hv⟩ := HL.out.at hin
    have hat2 := hat.kpt kz (by simp)
    have HV := Lib.hid hv
    clear hat hv kz hin
    go_enter Tryz.func44, Tryz.ntmps44
    go_wp2_with (at_lookup; refine S.wp_look_at kdS Tryz.underlying89 (0, none, 0, 0) (zero_face _) rfl _ _ rfl fb rfl n v hat2 hn rfl ?_)
    have hb : Below w.heap.size w ((w.alloc (.cells #[.int .i64 v.1, .slice v.2.1 v.2.2.1 v.2.2.2] 99)).alloc (.cells #[.int .i64 v.1, .slice v.2.1 v.2.2.1 v.2.2.2] 99)) := ((Below.refl _ w).alloc (Nat.le_refl _) _).alloc (by simp) _
    have hX : ((w.alloc (.cells #[.int .i64 v.1, .slice v.2.1 v.2.2.1 v.2.2.2] 99)).alloc (.cells #[.int .i64 v.1, .slice v.2.1 v.2.2.1 v.2.2.2] 99)).heap[w.heap.size]? = some (.cells #[.int .i64 v.1, .slice v.2.1 v.2.2.1 v.2.2.2] 99 (0, 0)) := ((below_alR _ _).block _ (by simp)).trans (heap_alloc_new w _)
    obtain ⟨w9, hw9⟩ : ∃ x, x = (w.alloc (.cells #[.int .i64 v.1, .slice v.2.1 v.2.2.1 v.2.2.2] 99)).alloc (.cells #[.int .i64 v.1, .slice v.2.1 v.2.2.1 v.2.2.2] 99) := ⟨_, rfl⟩
    rw [← hw9] at hb hX ⊢
    clear hw9 hat2
    obtain ⟨-, xc, -⟩ := boxN hX
    have x0 := xc 0 _ rfl
    have x1 := xc 1 _ rfl
    simp only [Nat.zero_add] at x0 x1
    refine bodyPost_ret (v := fmk v) (by simp [x0, x1, results, Tryz.results44, go_sem]) rfl ?_
    exact ⟨v, rfl, HV.out.kpt (S.Kpt.of_below (S := []) hb) (fun x hx => by cases hx), HK.out.below hb, S.Kpt.of_below hb⟩
  · have hno := (HL.out.no hn hin).kpt kz (by simp)
    clear kz
    go_enter Tryz.func44, Tryz.ntmps44
    go_wp2_with (at_lookup; refine S.wp_look_no kdS Tryz.underlying89 (0, none, 0, 0) (zero_face _) rfl _ _ rfl fb rfl n hno hn rfl ?_)
    have hb1 : Below w.heap.size w ((w.alloc (.cells #[.int .i64 0, .slice none 0 0] 99)).alloc (.cells #[.int .i64 0, .slice none 0 0] 99)) := ((Below.refl _ w).alloc (Nat.le_refl _) _).alloc (by simp) _
    have hR : ((w.alloc (.cells #[.int .i64 0, .slice none 0 0] 99)).alloc (.cells #[.int .i64 0, .slice none 0 0] 99)).heap[w.heap.size]? = some (.cells #[.int .i64 0, .slice none 0 0] 99 (0, 0)) := ((below_alR _ _).block _ (by simp)).trans (heap_alloc_new w _)
    have hX : ((w.alloc (.cells #[.int .i64 0, .slice none 0 0] 99)).alloc (.cells #[.int .i64 0, .slice none 0 0] 99)).heap[w.heap.size + 1]? = some (.cells #[.int .i64 0, .slice none 0 0] 99 (0, 0)) := by
      have := heap_alloc_new (w.alloc (.cells #[.int .i64 0, .slice none 0 0] 99)) (.cells #[.int .i64 0, .slice none 0 0] 99)
      rwa [World.size_alloc] at this
    obtain ⟨w1, hw1⟩ : ∃ x, x = (w.alloc (.cells #[.int .i64 0, .slice none 0 0] 99)).alloc (.cells #[.int .i64 0, .slice none 0 0] 99) := ⟨_, rfl⟩
    rw [← hw1] at hb1 hR hX ⊢
    have hz1 : w1.heap.size = w.heap.size + 2 := by rw [hw1]; simp
    clear hw1 hno
    obtain ⟨rb, hrb⟩ : ∃ x, w.heap.size = x := ⟨_, rfl⟩
    obtain ⟨xb, hxb⟩ : ∃ x, w.heap.size + 1 = x := ⟨_, rfl⟩
    have hrx : rb ≠ xb ∧ rb ≠ fb ∧ xb ≠ fb ∧ rb ≠ lb ∧ w.heap.size ≤ rb ∧ w.heap.size ≤ xb ∧ N ≤ rb := by omega
    rw [hxb] at hX ⊢
    rw [hrb] at hR ⊢
    have HRX := Lib.hid hrx
    have HB1 := Lib.hid hb1
    have HR := Lib.hid hR
    have HX := Lib.hid hX
    have HK1 := Lib.hid (HK.out.below hb1)
    have hrl : rb < w1.heap.size := by omega
    have hxl : xb < w1.heap.size := by omega
    clear hb1 hR hX hrx hrb hxb c0 c1
    refine (Class_t _ tb mt vs K n w1 HK1.out.1 hn HA.out.1).mono ?_
    rintro e w2 ⟨pi, ni, ci, pf, nf, cf, pm, nm, cm, rfl, hco, hb2⟩
    have hmm : RdX 9 mP (fun b => w1.heap.size ≤ b) w2 (.slice pm nm cm) (clsK K n).methods := by
      obtain ⟨_, _, _, e, _, _, k⟩ := hco.rd
      simp only [List.cons.injEq, and_true] at e
      obtain ⟨-, -, -, -, -, rfl⟩ := e
      exact k
    obtain ⟨_, _, e, -⟩ := hmm.len
    simp only [Value.slice.injEq] at e
    obtain ⟨-, rfl, -⟩ := e
    have HMM := Lib.hid hmm
    have HB2 := Lib.hid hb2
    have hs2 := hb2.size
    clear hco hb2 hmm HK1
    have HR2 := Lib.hid ((HB2.out.block _ hrl).trans HR.out)
    have HX2 := Lib.hid ((HB2.out.block _ hxl).trans HX.out)
    clear HR HX
    have hcf := cls_name_few HA.out n
    have hcz := (HA.out.2.1 n).2
    have HCF := Lib.hid hcf
    have HCZ := Lib.hid hcz
    have HCK : Hid ((findC K n).getD noC = clsK K n) := Lib.hid rfl
    rw [HCK.out]
    obtain ⟨c, hc⟩ : ∃ x, clsK K n = x := ⟨_, rfl⟩
    have HC := Lib.hid hc
    rw [hc] at HMM HCF HCZ ⊢
    clear hcf hcz hc HCK
    go_upto_region 4 with fail
    obtain ⟨w3, hw3⟩ : ∃ x, x = w2.alloc (.cells #[.string c.name, .string c.super, .slice pi ni ci, .int .i64 c.kind, .slice pf nf cf, .slice pm c.methods.length cm] 27) := ⟨_, rfl⟩
    have hb3 : Below w2.heap.size w2 w3 := by rw [hw3]; exact below_alR _ _
    have hcb : w3.heap[w2.heap.size]? = some (.cells #[.string c.name, .string c.super, .slice pi ni ci, .int .i64 c.kind, .slice pf nf cf, .slice pm c.methods.length cm] 27 (0, 0)) := by rw [hw3]; exact heap_alloc_new _ _
    rw [← hw3]
    clear hw3
    obtain ⟨tc, htc⟩ : ∃ x, w2.heap.size = x := ⟨_, rfl⟩
    rw [htc] at hcb ⊢
    have hcl : tc < w3.heap.size := (Array.getElem?_eq_some_iff.1 hcb).1
    obtain ⟨-, xc, -⟩ := boxN hcb
    have y0 := xc 0 _ rfl
    have y1 := xc 1 _ rfl
    have y2 := xc 2 _ rfl
    have y3 := xc 3 _ rfl
    have y4 := xc 4 _ rfl
    have y5 := xc 5 _ rfl
    simp only [Nat.zero_add] at y0 y1 y2 y3 y4 y5
    have HB3 := Lib.hid hb3
    have HMM3 := Lib.hid (HMM.out.any mP.grow hb3)
    clear xc hcb htc hb3
    have HB13 : Hid (Below w1.heap.size w1 w3) := Lib.hid (HB2.out.trans (HB3.out.mono hs2))
    have HR3 := Lib.hid ((HB3.out.block _ (by omega)).trans HR2.out)
    have HX3 := Lib.hid ((HB3.out.block _ (by omega)).trans HX2.out)
    have hs3 := HB3.out.size
    clear HR2 HX2 HMM HB2 HB3
    go_wp2_with fail
    refine (faceOf_h c pi pf pm ni ci nf cf cm _ w3 HMM3.out HCF.out HCZ.out).mono ?_
    rintro e w4 ⟨p, sn, cc, rfl, ho4, hb4⟩
    have esn : sn = (sgsK K n).length := by
      obtain ⟨_, _, e, _⟩ := (ho4.rd (sP.grow _)).len
      simp only [Value.slice.injEq] at e
      rw [e.2.1]; unfold sgsK; rw [HC.out]
    have HO4 := Lib.hid ho4
    have HES := Lib.hid esn
    have hs4 := hb4.size
    have HB14 : Hid (Below w1.heap.size w1 w4) := Lib.hid (HB13.out.trans (hb4.mono (by omega)))
    have HR4 := Lib.hid ((hb4.block _ (by omega)).trans HR3.out)
    have HX4 := Lib.hid ((hb4.block _ (by omega)).trans HX3.out)
    clear ho4 hb4 esn HR3 HX3 HB13 HMM3 y0 y1 y2 y3 y4 y5 HCF HCZ hcl
    obtain ⟨xl, xc, xf⟩ := boxN HX4.out
    have x0 := xc 0 _ rfl
    have x1 := xc 1 _ rfl
    have z0 := xf 0
    have z1 := xf 1
    simp only [Nat.zero_add] at x0 x1
    clear xc xf
    have hk1 : S.Kpt [xb] w4 (w4.setCell ⟨xb, 0, none⟩ (.int .i64 c.kind)) := S.Kpt.set _ _ _ _ _ (by simp)
    have hk2 : S.Kpt [xb] (w4.setCell ⟨xb, 0, none⟩ (.int .i64 c.kind)) ((w4.setCell ⟨xb, 0, none⟩ (.int .i64 c.kind)).setCell ⟨xb, 1, none⟩ (.slice p sn cc)) := S.Kpt.set _ _ _ _ _ (by simp)
    have HKk := Lib.hid (hk1.trans hk2 (fun _ h => .inl h))
    have hX5 : ((w4.setCell ⟨xb, 0, none⟩ (.int .i64 c.kind)).setCell ⟨xb, 1, none⟩ (.slice p sn cc)).heap[xb]? = some (.cells #[.int .i64 c.kind, .slice p sn cc] 99 (0, 0)) := by
      rw [heap_setCell_same _ xb 1 _ _ _ (heap_setCell_same w4 xb 0 _ _ _ HX4.out)]; rfl
    have HX5 := Lib.hid hX5
    clear hk1 hk2 hX5
    go_upto_region 5 with fail
    clear x0 x1 z0 z1 xl
    obtain ⟨w5, hw5⟩ : ∃ x, x = (w4.setCell ⟨xb, 0, none⟩ (.int .i64 c.kind)).setCell ⟨xb, 1, none⟩ (.slice p sn cc) := ⟨_, rfl⟩
    rw [← hw5] at HKk HX5 ⊢
    clear hw5
    have HB4 : Hid (Below w.heap.size w w4) := Lib.hid (HB1.out.trans (HB14.out.mono (by omega)))
    have hb5 : Below w.heap.size w w5 := HB4.out.trans (HKk.out.below (fun x hx => by rw [List.mem_singleton.1 hx]; exact HRX.out.2.2.2.2.2.1) HB4.out.size)
    have HR5 := Lib.hid (HKk.out.block HR4.out (by simpa using HRX.out.1))
    have hsg : RdX 5 (sP sgC) (okSg w5) w5 (.slice p sn cc) (sgsK K n) := by
      have h1 : OwnX 5 104 (sP sgC) w5 w3.heap.size (.slice p sn cc) (c.methods.map sgOf) := HO4.out.kptS (⟨HKk.out.1, HKk.out.2⟩ : Kpt [xb] w4 w5) (fun g e => by have := (HO4.out.lt g e).1; simp; omega)
      unfold sgsK
      rw [HC.out]
      exact own_sg h1
    have HSG := Lib.hid hsg
    have HB5 := Lib.hid hb5
    have HK5 := Lib.hid (HK.out.below hb5)
    have HM5 := Lib.hid ((HL.out.kpt (S.Kpt.of_below (S := []) hb5) (by simp)).imp (V' := FaceV w5 K) fun x v _ hv => hv.kpt (S.Kpt.of_below (S := []) hb5) (fun x hx => by cases hx))
    clear hsg hb5 HO4 HKk HX4 HR4 HB4 HB14 HB1 HK HL
    have hFV : FaceV w5.drew K n (c.kind, p, sn, cc) := ⟨by rw [HC.out], HES.out, (HSG.out.step (sP.grow _) (fun _ h _ => h) (fun _ _ _ => rfl) (Nat.le_refl _))⟩
    have HFV := Lib.hid hFV
    have hbd : Below w5.heap.size w5 w5.drew := (Below.refl _ _).drew
    have HB6 := Lib.hid (HB5.out.drew)
    have HK6 := Lib.hid (HK5.out.below hbd)
    have HM6 : Hid (S.Mv 9 S.qS S.okS fmk (FaceV w5.drew K) w5.drew fb L) := Lib.hid ((HM5.out.kpt (S.Kpt.of_below (S := []) hbd) (by simp)).imp fun x v _ hv => hv.kpt (S.Kpt.of_below (S := []) hbd) (fun x hx => by cases hx))
    have HX6 : Hid (w5.drew.heap[xb]? = some (.cells #[.int .i64 c.kind, .slice p sn cc] 99 (0, 0))) := Lib.hid HX5.out
    have HR6 : Hid (w5.drew.heap[rb]? = some (.cells #[.int .i64 0, .slice none 0 0] 99 (0, 0))) := Lib.hid HR5.out
    obtain ⟨-, -, -, c0, c1⟩ := HK5.out.cells
    obtain ⟨-, xc, -⟩ := boxN HX5.out
    have x0 := xc 0 _ rfl
    have x1 := xc 1 _ rfl
    simp only [Nat.zero_add] at x0 x1
    clear xc hFV hbd HB5 HK5 HM5 HX5 HR5 HSG
    go_still_tail 6, (by kernel_rfl)
    change wpList _ _ _ _ _ w5.drew
    obtain ⟨w6, hw6⟩ : ∃ x, x = w5.drew := ⟨_, rfl⟩
    rw [← hw6] at HFV HB6 HK6 HM6 HX6 HR6 ⊢
    clear hw6 c0 c1 x0 x1
    go_wp2_with (at_mapUpdate; refine S.wp_storeV kdS Tryz.underlying89 rfl _ _ _ rfl fb L rfl HM6.out n (c.kind, p, sn, cc) hn rfl rfl HFV.out (by omega) ?_)
    intro w7 hm7 hg7
    have HL7 : Hid (∀ x ∈ S.addS L n, x ∈ askL K) := Lib.hid (fun x hx => (S.addS_mem.1 hx).elim (HLA.out x) (fun e => by rw [e]; exact HQ.out))
    have k7 : S.Kpt [fb] w6 w7 := .of_grown hg7 (fun g e => by cases e; exact .inl (by simp))
    have HK7 := Lib.hid (HK6.out.store HL7.out hm7 hg7)
    have HFV7 := Lib.hid (HFV.out.kpt k7 (fun x hx => by rw [List.mem_singleton.1 hx]; exact HK6.out.notSg))
    have HX7 := Lib.hid (k7.block HX6.out (by simpa using HRX.out.2.2.1))
    have HR7 := Lib.hid (k7.block HR6.out (by simpa using HRX.out.2.1))
    have HKP : Hid (S.Kpt [fb] w w7) := Lib.hid ((S.Kpt.of_below (S := [fb]) HB6.out).trans k7 (fun x hx => .inl hx))
    clear hm7 hg7 k7 HFV HB6 HK6 HM6 HX6 HR6 HLA HL7
    obtain ⟨xl, xc, xf⟩ := boxN HX7.out
    have x0 := xc 0 _ rfl
    have x1 := xc 1 _ rfl
    obtain ⟨rl, rc, rf⟩ := boxN HR7.out
    have r0 := rc 0 _ rfl
    have r1 := rc 1 _ rfl
    have f0 := rf 0
    have f1 := rf 1
    simp only [Nat.zero_add] at x0 x1 r0 r1
    clear xc xf rc rf
    go_wp2_with fail
    have k1 : S.Kpt [rb] w7 (w7.setCell ⟨rb, 0, none⟩ (.int .i64 c.kind)) := S.Kpt.set _ _ _ _ _ (by simp)
    have k2 : S.Kpt [rb] (w7.setCell ⟨rb, 0, none⟩ (.int .i64 c.kind)) ((w7.setCell ⟨rb, 0, none⟩ (.int .i64 c.kind)).setCell ⟨rb, 1, none⟩ (.slice p sn cc)) := S.Kpt.set _ _ _ _ _ (by simp)
    have k3 := k1.trans k2 (fun _ h => .inl h)
    have nsg : ¬ okSg w7 rb := not_sg HR7.out (fun _ _ e => by simp at e)
    refine bodyPost_ret (v := fmk (c.kind, p, sn, cc)) (by simp [*, results, Tryz.results44, go_sem]) rfl ?_
    exact ⟨_, rfl, HFV7.out.kpt k3 (fun x hx => by rw [List.mem_singleton.1 hx]; exact nsg), HK7.out.kpt k3 (fun x hx => by rw [List.mem_singleton.1 hx]; exact ⟨HRX.out.2.2.2.2.2.2, HRX.out.2.2.2.1, HRX.out.2.1, nsg⟩), HKP.out.trans k3 (fun x hx => by rw [List.mem_singleton.1 hx]; exact .inr HRX.out.2.2.2.2.1)⟩
end Go.Proofs.YtlmpnmnfloeoiaaGreat.R
namespace Go.Proofs.YtlmpnmnfloeoiaaGreat.R
open Go.RowKit Go.Proofs.YtlmpnmnfloeoiaaGreat.D Go.Proofs.YtlmpnmnfloeoiaaGreat.O Go.Proofs.YtlmpnmnfloeoiaaGreat.A
set_option maxHeartbeats 2000000 in
set_option maxRecDepth 100000 in
theorem strange_h (N lb fb tb mt : Nat) (vs : Value) (K : List Cls) (t : Ty) (w : World) (h : LkW w N lb fb tb mt vs K) (hn : t.2.size ≤ maxLen) :
    Calls Tryz.prog 68 #[.pointer (some ⟨lb, 0, none⟩), .agg #[.int .i64 t.1, .string t.2]] w fun e w' => e = .returned (.bool (strangeK K t)) ∧ Below w.heap.size w w' := by
  have HK := Lib.hid h
  obtain ⟨hlb, hfb, hlf, c0, c1⟩ := h.cells
  clear h
  obtain ⟨k, cl⟩ := t
  dsimp only at hn ⊢
  have hb2 : Below w.heap.size w (w.alloc (.cells #[.int .i64 k, .string cl] 38)) := below_alR _ _
  have hX2 := heap_alloc_new w (.cells #[.int .i64 k, .string cl] 38)
  obtain ⟨w2, hw2⟩ : ∃ x, x = w.alloc (.cells #[.int .i64 k, .string cl] 38) := ⟨_, rfl⟩
  have hz2 : w2.heap.size = w.heap.size + 1 := by rw [hw2]; simp
  by_cases hk : k = 4
  · subst hk
    have HS : Hid (strangeK K (4, cl) = !knownT (K.map skOf) cl) := Lib.hid rfl
    go_enter Tryz.func68, Tryz.ntmps68
    go_upto_region 1 with fail
    rw [← hw2] at hb2 hX2 ⊢
    clear hw2 c0 c1
    have HB := Lib.hid hb2
    have hbd : Below w2.heap.size w2 w2.drew := (Below.refl _ _).drew
    have HK2 := Lib.hid ((HK.out.below hb2).below hbd)
    obtain ⟨-, -, -, c0, c1⟩ := HK2.out.cells
    obtain ⟨xl, xc, -⟩ := boxN hX2
    have x0 : w2.drew.cell? ⟨w.heap.size, 0, none⟩ = some (.int .i64 4) := by have := xc 0 _ rfl; simpa using this
    have x1 : w2.drew.cell? ⟨w.heap.size, 1, none⟩ = some (.string cl) := by have := xc 1 _ rfl; simpa using this
    clear xc hbd
    obtain ⟨r, hr⟩ : ∃ y, knownT (K.map skOf) cl = y := ⟨_, rfl⟩
    rw [hr] at HS
    go_region_law (rw [if_pos (by rfl)]; go_simp; go_at_call 19; refine (known_t _ tb mt vs K cl _ HK2.out.1 hn).mono ?_; rw [hr]; rintro e wx ⟨rfl, hbx⟩; have HX := Lib.hid hbx; clear hbx)
    all_goals
      go_wp2_with fail
      go_ret
      exact ⟨by rw [HS.out]; first | rfl | simp, (HB.out.drew).trans (HX.out.mono HB.out.drew.size)⟩
  · have HS : Hid (strangeK K (k, cl) = false) := Lib.hid (by unfold strangeK; rw [if_neg hk])
    have hk' : (k == (4 : Int)) = false := by simpa using hk
    have hk2 : decide (k = (4 : Int)) = false := by simpa using hk
    go_enter Tryz.func68, Tryz.ntmps68
    go_upto_region 1 with fail
    rw [← hw2] at hb2 hX2 ⊢
    clear hw2 c0 c1
    have HB := Lib.hid hb2
    obtain ⟨xl, xc, -⟩ := boxN hX2
    have x0 := xc 0 _ rfl
    have x1 := xc 1 _ rfl
    simp only [Nat.zero_add] at x0 x1
    clear xc
    go_quiet (fail)
    go_wp2_with fail
    go_ret
    exact ⟨by rw [HS.out]; first | rfl | simp, HB.out.trans (S.below_drewN _ _ _)⟩
end Go.Proofs.YtlmpnmnfloeoiaaGreat.R
