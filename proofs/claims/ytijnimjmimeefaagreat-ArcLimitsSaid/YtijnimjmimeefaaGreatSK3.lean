/- Texts that the proof is made of, joined. No condition. -/
import Derived.Test.YtijnimjmimeefaaGreatSK2
import Derived.RegionTactic
import Derived.Deep.RegionHeld3
import Derived.OrdersHeld
import Derived.Test.YtijnimjmimeefaaGreatSK1
import Derived.Shelf.Strings.BuilderX
import Derived.Below
import Derived.Test.YtijnimjmimeefaaGreatSKH
set_option linter.unusedVariables false
set_option linter.unusedSimpArgs false
namespace Go.Proofs.YtijnimjmimeefaaGreat.O
open Go.Proofs.YtijnimjmimeefaaGreat.D
open Go.RowKit
theorem str_ext {a b : ByteArray} (h : a.toList = b.toList) : a = b := by
 rw [Lib.toList_data, Lib.toList_data] at h
 obtain ⟨⟨x⟩⟩ := a
 obtain ⟨⟨y⟩⟩ := b
 simp only at h
 rw [h]
abbrev Ins : Type := Int × Int × Int × ByteArray × ByteArray × ByteArray × ByteArray
def insV (x : Ins) : Value := .agg #[.int .i64 x.1, .int .i32 x.2.1, .int .i64 x.2.2.1, .string x.2.2.2.1, .string x.2.2.2.2.1, .string x.2.2.2.2.2.1, .string x.2.2.2.2.2.2]
def usedI (x : Ins) : Ins :=
 (x.1, (if usesI x.1 = 1 then x.2.1 else 0), (if usesI x.1 = 3 then x.2.2.1 else 0), (if usesI x.1 = 2 then x.2.2.2.1 else ⟨#[]⟩),
  (if usesI x.1 = 4 ∨ usesI x.1 = 5 ∨ usesI x.1 = 6 then x.2.2.2.2.1 else ⟨#[]⟩), (if usesI x.1 = 4 ∨ usesI x.1 = 5 then x.2.2.2.2.2.1 else ⟨#[]⟩), (if usesI x.1 = 5 then x.2.2.2.2.2.2 else ⟨#[]⟩))
theorem same_any (o n k o' n' k' : Int) (s c m d s' c' m' d' : ByteArray) (w : World) :
  Calls Tryz.prog 133 #[insV (o, n, k, s, c, m, d), insV (o', n', k', s', c', m', d')] w fun e w' => e = .returned (.bool (decide ((o, n, k, s, c, m, d) = (o', n', k', s', c', m', d')))) ∧ Below w.heap.size w w' := by
 unfold insV
 go_enter Tryz.func133, Tryz.ntmps133
 go_wp2
 all_goals go_ret
 all_goals refine ⟨ret_bool ?_, ((Below.refl _ _).alloc (Nat.le_refl _) _).alloc (by simp) _⟩
 ·rename_i h1 h2 h3 h4 h5 h6 h7
  subst h1; subst h2; subst h3
  rw [str_ext h4, str_ext h5, str_ext h6, str_ext h7]
  simp
 all_goals (symm; rw [decide_eq_false_iff_not]; intro e; simp only [Prod.mk.injEq] at e; obtain ⟨e1, e2, e3, e4, e5, e6, e7⟩ := e; simp_all)
theorem insV_mk (o n k : Int) (s c m d : ByteArray) : insV (o, n, k, s, c, m, d) = .agg #[.int .i64 o, .int .i32 n, .int .i64 k, .string s, .string c, .string m, .string d] := rfl
set_option maxHeartbeats 1000000 in
theorem used_any (o n k : Int) (s c m d : ByteArray) (w : World) :
  Calls Tryz.prog 207 #[insV (o, n, k, s, c, m, d)] w fun e w' => e = .returned (insV (usedI (o, n, k, s, c, m, d))) ∧ Below w.heap.size w w' := by
 rw [insV_mk]
 go_enter Tryz.func207, Tryz.ntmps207
 go_wp2_with (go_at_call 182; refine (uses_any _ _).mono ?_; rintro e w' ⟨rfl, rfl⟩)
 all_goals refine bodyPost_ret (v := insV (usedI (o, n, k, s, c, m, d))) ?_ rfl ⟨rfl, ?_⟩
 all_goals simp_all [results, Tryz.results207, go_sem, insV, usedI]
 all_goals exact ((Below.refl _ _).alloc (Nat.le_refl _) _).alloc (by simp) _
end Go.Proofs.YtijnimjmimeefaaGreat.O
namespace Go.Proofs.YtijnimjmimeefaaGreat.O
open Go.Proofs.YtijnimjmimeefaaGreat.D
open Go.RowKit
def parsesB (s : ByteArray) : Bool := (parseR s.data.toList).2.2
def withinB (x : Ins) : Bool :=
 if usesI x.1 = 2 then decide (x.2.2.2.1.size ≤ 1000) else if usesI x.1 = 3 then decide (0 ≤ x.2.2.1 ∧ x.2.2.1 ≤ 2000) else
 if usesI x.1 = 4 then nameB x.2.2.2.2.1 && nameB x.2.2.2.2.2.1 else if usesI x.1 = 5 then nameB x.2.2.2.2.1 && nameB x.2.2.2.2.2.1 && parsesB x.2.2.2.2.2.2 else
 if usesI x.1 = 6 then nameB x.2.2.2.2.1 else true
def rightI (x : Ins) : Bool := knownB x.1 && decide (x = usedI x) && withinB x
theorem parses_any (s : ByteArray) (w : World) (hg : Glob w) (hs : s.size ≤ 4294967280) :
  Calls Tryz.prog 214 #[.string s] w fun e w' => e = .returned (.bool (parsesB s)) ∧ Below w.heap.size w w' := by
 go_enter Tryz.func214, Tryz.ntmps214
 go_wp2_with fail
 refine (parse_any s w hg hs).mono ?_
 rintro e w1 ⟨v, ps, ⟨t0, t1⟩, ok, HP, rfl, ho, hb⟩
 have HV : Hid (parsesB s = ok) := Lib.hid (by unfold parsesB; rw [HP.out])
 have hs1 := hb.size
 rw [show tyv (t0, t1) = .agg #[.int .i64 t0, .string t1] from rfl]
 obtain ⟨pa, pc, hv, _⟩ := ho.rd
 subst hv
 clear ho HP
 go_wp2_with fail
 go_ret
 refine ⟨ret_bool HV.out.symm, ?_⟩
 repeat (first | exact Below.refl _ _ | exact hb | refine Below.setCell (p := ⟨_, _, _⟩) ?_ (by first | (simp; done) | (simp; omega) | omega) _ | refine below_drewN ?_ _ | refine Below.drew ?_ | refine Below.alloc ?_ (by first | (simp; done) | (simp; omega) | omega) _)
set_option maxHeartbeats 2000000 in
theorem within_any (o n k : Int) (s c m d : ByteArray) (w : World) (hg : Glob w) (hc : c.size ≤ maxLen) (hm : m.size ≤ maxLen) (hd : d.size ≤ 4294967280) :
  Calls Tryz.prog 208 #[insV (o, n, k, s, c, m, d)] w fun e w' => e = .returned (.bool (withinB (o, n, k, s, c, m, d))) ∧ Below w.heap.size w w' := by
 rw [insV_mk]
 have hg1 := hg.alloc (.cells #[.int .i64 o, .int .i32 n, .int .i64 k, .string s, .string c, .string m, .string d] 61)
 have hb0 : Below w.heap.size w (w.alloc (.cells #[.int .i64 o, .int .i32 n, .int .i64 k, .string s, .string c, .string m, .string d] 61)) := (Below.refl _ _).alloc (Nat.le_refl _) _
 go_enter Tryz.func208, Tryz.ntmps208
 go_wp2_with (first
  | (go_at_call 182; refine (uses_any _ _).mono ?_; rintro e w' ⟨rfl, rfl⟩)
  | (go_at_call 154; refine (name_any _ _ (by assumption)).mono ?_; rintro e w' ⟨rfl, rfl⟩)
  | (go_at_call 214; refine (parses_any _ _ hg1 hd).mono ?_; rintro e w' ⟨rfl, hb1⟩))
 all_goals go_ret
 all_goals refine ⟨ret_bool ?_, ?_⟩
 all_goals first | exact hb0 | exact hb0.trans (hb1.mono hb0.size) | skip
 all_goals (rw [Bool.eq_iff_iff]; simp_all [withinB]; try omega)
theorem ibox_next {w w' : World} {X : Nat} {o n k : Int} {s c m d : ByteArray} (h : w.cell? ⟨X, 0, none⟩ = some (.int .i64 o) ∧ w.cell? ⟨X, 1, none⟩ = some (.int .i32 n) ∧ w.cell? ⟨X, 2, none⟩ = some (.int .i64 k) ∧ w.cell? ⟨X, 3, none⟩ = some (.string s) ∧ w.cell? ⟨X, 4, none⟩ = some (.string c) ∧ w.cell? ⟨X, 5, none⟩ = some (.string m) ∧ w.cell? ⟨X, 6, none⟩ = some (.string d)) (hX : X < w.heap.size) (hb : Below w.heap.size w w') :
  w'.cell? ⟨X, 0, none⟩ = some (.int .i64 o) ∧ w'.cell? ⟨X, 1, none⟩ = some (.int .i32 n) ∧ w'.cell? ⟨X, 2, none⟩ = some (.int .i64 k) ∧ w'.cell? ⟨X, 3, none⟩ = some (.string s) ∧ w'.cell? ⟨X, 4, none⟩ = some (.string c) ∧ w'.cell? ⟨X, 5, none⟩ = some (.string m) ∧ w'.cell? ⟨X, 6, none⟩ = some (.string d) := by
 obtain ⟨h0, h1, h2, h3, h4, h5, h6⟩ := h
 exact ⟨(hb.cell (p := ⟨X, 0, none⟩) hX).trans h0, (hb.cell (p := ⟨X, 1, none⟩) hX).trans h1, (hb.cell (p := ⟨X, 2, none⟩) hX).trans h2, (hb.cell (p := ⟨X, 3, none⟩) hX).trans h3, (hb.cell (p := ⟨X, 4, none⟩) hX).trans h4, (hb.cell (p := ⟨X, 5, none⟩) hX).trans h5, (hb.cell (p := ⟨X, 6, none⟩) hX).trans h6⟩
theorem ibox_new (w : World) (o n k : Int) (s c m d : ByteArray) (w' : World) (hw : w' = (w.alloc (.cells #[.int .i64 o, .int .i32 n, .int .i64 k, .string s, .string c, .string m, .string d] 61)).drew) :
  w'.cell? ⟨w.heap.size, 0, none⟩ = some (.int .i64 o) ∧ w'.cell? ⟨w.heap.size, 1, none⟩ = some (.int .i32 n) ∧ w'.cell? ⟨w.heap.size, 2, none⟩ = some (.int .i64 k) ∧ w'.cell? ⟨w.heap.size, 3, none⟩ = some (.string s) ∧ w'.cell? ⟨w.heap.size, 4, none⟩ = some (.string c) ∧ w'.cell? ⟨w.heap.size, 5, none⟩ = some (.string m) ∧ w'.cell? ⟨w.heap.size, 6, none⟩ = some (.string d) := by
 subst hw
 refine ⟨?_, ?_, ?_, ?_, ?_, ?_, ?_⟩ <;> simp
set_option maxHeartbeats 8000000 in
theorem right_any (o n k : Int) (s c m d : ByteArray) (w : World) (hg : Glob w) (hc : c.size ≤ maxLen) (hm : m.size ≤ maxLen) (hd : d.size ≤ 4294967280) :
  Calls Tryz.prog 193 #[insV (o, n, k, s, c, m, d)] w fun e w' => e = .returned (.bool (rightI (o, n, k, s, c, m, d))) ∧ Below w.heap.size w w' := by
 rw [insV_mk]
 obtain ⟨⟨o', n', k', s', c', m', d'⟩, HU⟩ : ∃ y, usedI (o, n, k, s, c, m, d) = y := ⟨_, rfl⟩
 obtain rfl : o = o' := congrArg Prod.fst HU
 have HUS : Hid (∀ w : World, Calls Tryz.prog 207 #[.agg #[.int .i64 o, .int .i32 n, .int .i64 k, .string s, .string c, .string m, .string d]] w fun e w' => e = .returned (.agg #[.int .i64 o, .int .i32 n', .int .i64 k', .string s', .string c', .string m', .string d']) ∧ Below w.heap.size w w') := Lib.hid (fun w => by
  have := used_any o n k s c m d w
  rw [HU, insV_mk, insV_mk] at this
  exact this)
 have HWI : Hid (∀ w : World, Glob w → Calls Tryz.prog 208 #[.agg #[.int .i64 o, .int .i32 n, .int .i64 k, .string s, .string c, .string m, .string d]] w fun e w' => e = .returned (.bool (withinB (o, n, k, s, c, m, d))) ∧ Below w.heap.size w w') := Lib.hid (fun w hg => by
  have := within_any o n k s c m d w hg hc hm hd
  rw [insV_mk] at this
  exact this)
 have HR : Hid (rightI (o, n, k, s, c, m, d) = (knownB o && decide ((o, n, k, s, c, m, d) = (o, n', k', s', c', m', d')) && withinB (o, n, k, s, c, m, d))) := Lib.hid (by unfold rightI; rw [HU])
 have hb0 : Below w.heap.size w (w.alloc (.cells #[.int .i64 o, .int .i32 n, .int .i64 k, .string s, .string c, .string m, .string d] 61)).drew := ((Below.refl _ _).alloc (Nat.le_refl _) _).drew
 have hx0 := ibox_new w o n k s c m d _ rfl
 have hX0 : w.heap.size < (w.alloc (.cells #[.int .i64 o, .int .i32 n, .int .i64 k, .string s, .string c, .string m, .string d] 61)).drew.heap.size := by simp
 clear HU
 cases hk : knownB o with
 | false =>
  have HF : Hid (rightI (o, n, k, s, c, m, d) = false) := Lib.hid (by rw [HR.out, hk]; rfl)
  clear HR
  go_enter Tryz.func193, Tryz.ntmps193
  go_wp2_with fail
  refine wp_region_held_drew (S := (fun w' => w'.cell? ⟨w.heap.size, 0, none⟩ = some (.int .i64 o) ∧ w'.cell? ⟨w.heap.size, 1, none⟩ = some (.int .i32 n) ∧ w'.cell? ⟨w.heap.size, 2, none⟩ = some (.int .i64 k) ∧ w'.cell? ⟨w.heap.size, 3, none⟩ = some (.string s) ∧ w'.cell? ⟨w.heap.size, 4, none⟩ = some (.string c) ∧ w'.cell? ⟨w.heap.size, 5, none⟩ = some (.string m) ∧ w'.cell? ⟨w.heap.size, 6, none⟩ = some (.string d))) (by kernel_rfl) hx0 (fun hHeld => ?_)
  refine wpAnyH_take (i := 0) (oi := _) (v := ?_) (by rfl) (by kernel_rfl) (by kernel_rfl) (by kernel_rfl) (by intro _ _ _ h; exact h) (Or.inl ⟨by rfl, fun W hSw => ?_⟩) hHeld ?_
  rotate_left 1
  ·(clear hSw; first | (go_simp; done) | (go_simp; with_reducible rfl))
  try go_frame
  refine tkH 1 ?_ (fun W hSw => ?_) hHeld ?_
  rotate_left 1
  ·(try dsimp only at hSw); first | (go_simp; done) | (go_simp; with_reducible rfl)
  try go_frame
  refine wpAnyH_ready (rs := [2]) (by kernel_rfl) (by simp) ?_
  refine AllReadyH.cons (o := _) (by simp only [List.getElem?_toArray, List.getElem?_cons_succ, List.getElem?_cons_zero]; rfl) (fun K hK => ?_) AllReadyH.nil
  clear hHeld
  go_simp
  refine (knownop_any _ _).mono ?_
  rintro e w' ⟨rfl, rfl⟩
  refine hK.out _ _ hx0 (fun hHeld => ?_)
  clear hK K
  try go_frame
  refine tkH 3 ?_ (fun W hSw => ?_) hHeld ?_
  rotate_left 1
  ·(clear hSw; first | (go_simp; done) | (go_simp; with_reducible rfl))
  try go_frame
  refine wpAnyH_take (i := 4) (oi := _) (v := undef) (by simp only [List.getElem?_toArray, List.getElem?_cons_succ, List.getElem?_cons_zero]; rfl) (by kernel_rfl) (by kernel_rfl) (by kernel_rfl) (by intro _ _ _ h; exact h) (Or.inr ⟨by rfl, rfl⟩) hHeld ?_
  try go_frame
  refine wpAnyH_take (i := 5) (oi := _) (v := undef) (by simp only [List.getElem?_toArray, List.getElem?_cons_succ, List.getElem?_cons_zero]; rfl) (by kernel_rfl) (by kernel_rfl) (by kernel_rfl) (by intro _ _ _ h; exact h) (Or.inr ⟨by rfl, rfl⟩) hHeld ?_
  try go_frame
  refine wpAnyH_take (i := 6) (oi := _) (v := undef) (by simp only [List.getElem?_toArray, List.getElem?_cons_succ, List.getElem?_cons_zero]; rfl) (by kernel_rfl) (by kernel_rfl) (by kernel_rfl) (by intro _ _ _ h; exact h) (Or.inr ⟨by rfl, rfl⟩) hHeld ?_
  try go_frame
  refine wpAnyH_take (i := 7) (oi := _) (v := undef) (by simp only [List.getElem?_toArray, List.getElem?_cons_succ, List.getElem?_cons_zero]; rfl) (by kernel_rfl) (by kernel_rfl) (by kernel_rfl) (by intro _ _ _ h; exact h) (Or.inr ⟨by rfl, rfl⟩) hHeld ?_
  try go_frame
  refine tkH 8 ?_ (fun W hSw => ?_) hHeld ?_
  rotate_left 1
  ·(clear hSw; first | (go_simp; done) | (go_simp; with_reducible rfl))
  try go_frame
  refine tkH 9 ?_ (fun W hSw => ?_) hHeld ?_
  rotate_left 1
  ·(clear hSw; first | (go_simp; done) | (go_simp; with_reducible rfl))
  try go_frame
  refine wpAnyH_take (i := 10) (oi := _) (v := undef) (by simp only [List.getElem?_toArray, List.getElem?_cons_succ, List.getElem?_cons_zero]; rfl) (by kernel_rfl) (by kernel_rfl) (by kernel_rfl) (by intro _ _ _ h; exact h) (Or.inr ⟨by rfl, rfl⟩) hHeld ?_
  try go_frame
  refine wpAnyH_take (i := 11) (oi := _) (v := undef) (by simp only [List.getElem?_toArray, List.getElem?_cons_succ, List.getElem?_cons_zero]; rfl) (by kernel_rfl) (by kernel_rfl) (by kernel_rfl) (by intro _ _ _ h; exact h) (Or.inr ⟨by rfl, rfl⟩) hHeld ?_
  try go_frame
  refine tkH 12 ?_ (fun W hSw => ?_) hHeld ?_
  rotate_left 1
  ·(clear hSw; first | (go_simp; done) | (go_simp; with_reducible rfl))
  try go_frame
  refine tkH 13 ?_ (fun W hSw => ?_) hHeld ?_
  rotate_left 1
  ·(clear hSw; first | (go_simp; done) | (go_simp; with_reducible rfl))
  try go_frame
  refine wpAnyH_done (by kernel_rfl) ?_ _
  go_wp2_with fail
  go_ret
  exact ⟨ret_bool HF.out.symm, by first | exact hB2 | exact hB1 | exact hb0⟩
 | true =>
  by_cases en : n = n'
  ·subst en
   by_cases ek : k = k'
   ·subst ek
    by_cases es : s = s'
    ·subst es
     by_cases ec : c = c'
     ·subst ec
      by_cases em : m = m'
      ·subst em
       by_cases ed : d = d'
       ·subst ed
        have HF : Hid (rightI (o, n, k, s, c, m, d) = withinB (o, n, k, s, c, m, d)) := Lib.hid (by rw [HR.out, hk]; simp)
        clear HR
        go_enter Tryz.func193, Tryz.ntmps193
        go_wp2_with fail
        refine wp_region_held_drew (S := (fun w' => w'.cell? ⟨w.heap.size, 0, none⟩ = some (.int .i64 o) ∧ w'.cell? ⟨w.heap.size, 1, none⟩ = some (.int .i32 n) ∧ w'.cell? ⟨w.heap.size, 2, none⟩ = some (.int .i64 k) ∧ w'.cell? ⟨w.heap.size, 3, none⟩ = some (.string s) ∧ w'.cell? ⟨w.heap.size, 4, none⟩ = some (.string c) ∧ w'.cell? ⟨w.heap.size, 5, none⟩ = some (.string m) ∧ w'.cell? ⟨w.heap.size, 6, none⟩ = some (.string d))) (by kernel_rfl) hx0 (fun hHeld => ?_)
        refine wpAnyH_take (i := 0) (oi := _) (v := ?_) (by rfl) (by kernel_rfl) (by kernel_rfl) (by kernel_rfl) (by intro _ _ _ h; exact h) (Or.inl ⟨by rfl, fun W hSw => ?_⟩) hHeld ?_
        rotate_left 1
        ·(clear hSw; first | (go_simp; done) | (go_simp; with_reducible rfl))
        try go_frame
        refine tkH 1 ?_ (fun W hSw => ?_) hHeld ?_
        rotate_left 1
        ·(try dsimp only at hSw); first | (go_simp; done) | (go_simp; with_reducible rfl)
        try go_frame
        refine wpAnyH_ready (rs := [2]) (by kernel_rfl) (by simp) ?_
        refine AllReadyH.cons (o := _) (by simp only [List.getElem?_toArray, List.getElem?_cons_succ, List.getElem?_cons_zero]; rfl) (fun K hK => ?_) AllReadyH.nil
        clear hHeld
        go_simp
        refine (knownop_any _ _).mono ?_
        rintro e w' ⟨rfl, rfl⟩
        refine hK.out _ _ hx0 (fun hHeld => ?_)
        clear hK K
        try go_frame
        refine tkH 3 ?_ (fun W hSw => ?_) hHeld ?_
        rotate_left 1
        ·(clear hSw; first | (go_simp; done) | (go_simp; with_reducible rfl))
        try go_frame
        refine tkH 4 ?_ (fun W hSw => ?_) hHeld ?_
        rotate_left 1
        ·(try dsimp only at hSw); first | (go_simp; done) | (go_simp; with_reducible rfl)
        try go_frame
        refine tkH 5 ?_ (fun W hSw => ?_) hHeld ?_
        rotate_left 1
        ·(try dsimp only at hSw); first | (go_simp; done) | (go_simp; with_reducible rfl)
        try go_frame
        refine wpAnyH_ready (rs := [6]) (by kernel_rfl) (by simp) ?_
        refine AllReadyH.cons (o := _) (by simp only [List.getElem?_toArray, List.getElem?_cons_succ, List.getElem?_cons_zero]; rfl) (fun K hK => ?_) AllReadyH.nil
        clear hHeld
        go_simp
        refine (HUS.out _).mono ?_
        rintro e w1 ⟨rfl, hb1⟩
        have hB1 : Below w.heap.size w w1 := hb0.trans (hb1.mono hb0.size)
        have hx1 := ibox_next hx0 hX0 hb1
        have hX1 := Nat.lt_of_lt_of_le hX0 hb1.size
        refine hK.out _ _ hx1 (fun hHeld => ?_)
        clear hK K
        try go_frame
        refine tkH 7 ?_ (fun W hSw => ?_) hHeld ?_
        rotate_left 1
        ·(clear hSw; first | (go_simp; done) | (go_simp; with_reducible rfl))
        try go_frame
        refine tkH 8 ?_ (fun W hSw => ?_) hHeld ?_
        rotate_left 1
        ·(clear hSw; first | (go_simp; done) | (go_simp; with_reducible rfl))
        try go_frame
        refine tkH 9 ?_ (fun W hSw => ?_) hHeld ?_
        rotate_left 1
        ·(clear hSw; first | (go_simp; done) | (go_simp; with_reducible rfl))
        try go_frame
        refine tkH 10 ?_ (fun W hSw => ?_) hHeld ?_
        rotate_left 1
        ·(try dsimp only at hSw); first | (go_simp; done) | (go_simp; with_reducible rfl)
        try go_frame
        refine wpAnyH_ready (rs := [11]) (by kernel_rfl) (by simp) ?_
        refine AllReadyH.cons (o := _) (by simp only [List.getElem?_toArray, List.getElem?_cons_succ, List.getElem?_cons_zero]; rfl) (fun K hK => ?_) AllReadyH.nil
        clear hHeld
        go_simp
        refine (HWI.out _ (hg.below hB1 (Nat.le_refl _))).mono ?_
        rintro e w2 ⟨rfl, hb2⟩
        have hB2 : Below w.heap.size w w2 := hB1.trans (hb2.mono hB1.size)
        have hx2 := ibox_next hx1 hX1 hb2
        refine hK.out _ _ hx2 (fun hHeld => ?_)
        clear hK K
        try go_frame
        refine tkH 12 ?_ (fun W hSw => ?_) hHeld ?_
        rotate_left 1
        ·(clear hSw; first | (go_simp; done) | (go_simp; with_reducible rfl))
        try go_frame
        refine tkH 13 ?_ (fun W hSw => ?_) hHeld ?_
        rotate_left 1
        ·(clear hSw; first | (go_simp; done) | (go_simp; with_reducible rfl))
        try go_frame
        refine wpAnyH_done (by kernel_rfl) ?_ _
        go_wp2_with fail
        go_ret
        exact ⟨ret_bool HF.out.symm, by first | exact hB2 | exact hB1 | exact hb0⟩
       ·have f1 : ¬ d.toList = d'.toList := fun h => ed (str_ext h)
        have f2 : ¬ d'.toList = d.toList := fun h => ed (str_ext h.symm)
        have f3 : (d.toList == d'.toList) = false := by rw [beq_eq_false_iff_ne]; exact f1
        have f4 : (d'.toList == d.toList) = false := by rw [beq_eq_false_iff_ne]; exact f2
        have HF : Hid (rightI (o, n, k, s, c, m, d) = false) := Lib.hid (by rw [HR.out, hk, decide_eq_false (by intro e; simp only [Prod.mk.injEq] at e; exact ed (by simp_all))]; rfl)
        clear HR
        go_enter Tryz.func193, Tryz.ntmps193
        go_wp2_with fail
        refine wp_region_held_drew (S := (fun w' => w'.cell? ⟨w.heap.size, 0, none⟩ = some (.int .i64 o) ∧ w'.cell? ⟨w.heap.size, 1, none⟩ = some (.int .i32 n) ∧ w'.cell? ⟨w.heap.size, 2, none⟩ = some (.int .i64 k) ∧ w'.cell? ⟨w.heap.size, 3, none⟩ = some (.string s) ∧ w'.cell? ⟨w.heap.size, 4, none⟩ = some (.string c) ∧ w'.cell? ⟨w.heap.size, 5, none⟩ = some (.string m) ∧ w'.cell? ⟨w.heap.size, 6, none⟩ = some (.string d))) (by kernel_rfl) hx0 (fun hHeld => ?_)
        refine wpAnyH_take (i := 0) (oi := _) (v := ?_) (by rfl) (by kernel_rfl) (by kernel_rfl) (by kernel_rfl) (by intro _ _ _ h; exact h) (Or.inl ⟨by rfl, fun W hSw => ?_⟩) hHeld ?_
        rotate_left 1
        ·(clear hSw; first | (go_simp; done) | (go_simp; with_reducible rfl))
        try go_frame
        refine tkH 1 ?_ (fun W hSw => ?_) hHeld ?_
        rotate_left 1
        ·(try dsimp only at hSw); first | (go_simp; done) | (go_simp; with_reducible rfl)
        try go_frame
        refine wpAnyH_ready (rs := [2]) (by kernel_rfl) (by simp) ?_
        refine AllReadyH.cons (o := _) (by simp only [List.getElem?_toArray, List.getElem?_cons_succ, List.getElem?_cons_zero]; rfl) (fun K hK => ?_) AllReadyH.nil
        clear hHeld
        go_simp
        refine (knownop_any _ _).mono ?_
        rintro e w' ⟨rfl, rfl⟩
        refine hK.out _ _ hx0 (fun hHeld => ?_)
        clear hK K
        try go_frame
        refine tkH 3 ?_ (fun W hSw => ?_) hHeld ?_
        rotate_left 1
        ·(clear hSw; first | (go_simp; done) | (go_simp; with_reducible rfl))
        try go_frame
        refine tkH 4 ?_ (fun W hSw => ?_) hHeld ?_
        rotate_left 1
        ·(try dsimp only at hSw); first | (go_simp; done) | (go_simp; with_reducible rfl)
        try go_frame
        refine tkH 5 ?_ (fun W hSw => ?_) hHeld ?_
        rotate_left 1
        ·(try dsimp only at hSw); first | (go_simp; done) | (go_simp; with_reducible rfl)
        try go_frame
        refine wpAnyH_ready (rs := [6]) (by kernel_rfl) (by simp) ?_
        refine AllReadyH.cons (o := _) (by simp only [List.getElem?_toArray, List.getElem?_cons_succ, List.getElem?_cons_zero]; rfl) (fun K hK => ?_) AllReadyH.nil
        clear hHeld
        go_simp
        refine (HUS.out _).mono ?_
        rintro e w1 ⟨rfl, hb1⟩
        have hB1 : Below w.heap.size w w1 := hb0.trans (hb1.mono hb0.size)
        have hx1 := ibox_next hx0 hX0 hb1
        have hX1 := Nat.lt_of_lt_of_le hX0 hb1.size
        refine hK.out _ _ hx1 (fun hHeld => ?_)
        clear hK K
        try go_frame
        refine tkH 7 ?_ (fun W hSw => ?_) hHeld ?_
        rotate_left 1
        ·(clear hSw; first | (go_simp; done) | (go_simp; with_reducible rfl))
        try go_frame
        refine tkH 8 ?_ (fun W hSw => ?_) hHeld ?_
        rotate_left 1
        ·(clear hSw; first | (go_simp; done) | (go_simp; with_reducible rfl))
        try go_frame
        refine tkH 9 ?_ (fun W hSw => ?_) hHeld ?_
        rotate_left 1
        ·(clear hSw; first | (go_simp; done) | (go_simp; with_reducible rfl))
        try go_frame
        refine wpAnyH_take (i := 10) (oi := _) (v := undef) (by simp only [List.getElem?_toArray, List.getElem?_cons_succ, List.getElem?_cons_zero]; rfl) (by kernel_rfl) (by kernel_rfl) (by kernel_rfl) (by intro _ _ _ h; exact h) (Or.inr ⟨by rfl, rfl⟩) hHeld ?_
        try go_frame
        refine wpAnyH_take (i := 11) (oi := _) (v := undef) (by simp only [List.getElem?_toArray, List.getElem?_cons_succ, List.getElem?_cons_zero]; rfl) (by kernel_rfl) (by kernel_rfl) (by kernel_rfl) (by intro _ _ _ h; exact h) (Or.inr ⟨by rfl, rfl⟩) hHeld ?_
        try go_frame
        refine tkH 12 ?_ (fun W hSw => ?_) hHeld ?_
        rotate_left 1
        ·(clear hSw; first | (go_simp; done) | (go_simp; with_reducible rfl))
        try go_frame
        refine tkH 13 ?_ (fun W hSw => ?_) hHeld ?_
        rotate_left 1
        ·(clear hSw; first | (go_simp; done) | (go_simp; with_reducible rfl))
        try go_frame
        refine wpAnyH_done (by kernel_rfl) ?_ _
        go_wp2_with fail
        go_ret
        exact ⟨ret_bool HF.out.symm, by first | exact hB2 | exact hB1 | exact hb0⟩
      ·have f1 : ¬ m.toList = m'.toList := fun h => em (str_ext h)
       have f2 : ¬ m'.toList = m.toList := fun h => em (str_ext h.symm)
       have f3 : (m.toList == m'.toList) = false := by rw [beq_eq_false_iff_ne]; exact f1
       have f4 : (m'.toList == m.toList) = false := by rw [beq_eq_false_iff_ne]; exact f2
       have HF : Hid (rightI (o, n, k, s, c, m, d) = false) := Lib.hid (by rw [HR.out, hk, decide_eq_false (by intro e; simp only [Prod.mk.injEq] at e; exact em (by simp_all))]; rfl)
       clear HR
       go_enter Tryz.func193, Tryz.ntmps193
       go_wp2_with fail
       refine wp_region_held_drew (S := (fun w' => w'.cell? ⟨w.heap.size, 0, none⟩ = some (.int .i64 o) ∧ w'.cell? ⟨w.heap.size, 1, none⟩ = some (.int .i32 n) ∧ w'.cell? ⟨w.heap.size, 2, none⟩ = some (.int .i64 k) ∧ w'.cell? ⟨w.heap.size, 3, none⟩ = some (.string s) ∧ w'.cell? ⟨w.heap.size, 4, none⟩ = some (.string c) ∧ w'.cell? ⟨w.heap.size, 5, none⟩ = some (.string m) ∧ w'.cell? ⟨w.heap.size, 6, none⟩ = some (.string d))) (by kernel_rfl) hx0 (fun hHeld => ?_)
       refine wpAnyH_take (i := 0) (oi := _) (v := ?_) (by rfl) (by kernel_rfl) (by kernel_rfl) (by kernel_rfl) (by intro _ _ _ h; exact h) (Or.inl ⟨by rfl, fun W hSw => ?_⟩) hHeld ?_
       rotate_left 1
       ·(clear hSw; first | (go_simp; done) | (go_simp; with_reducible rfl))
       try go_frame
       refine tkH 1 ?_ (fun W hSw => ?_) hHeld ?_
       rotate_left 1
       ·(try dsimp only at hSw); first | (go_simp; done) | (go_simp; with_reducible rfl)
       try go_frame
       refine wpAnyH_ready (rs := [2]) (by kernel_rfl) (by simp) ?_
       refine AllReadyH.cons (o := _) (by simp only [List.getElem?_toArray, List.getElem?_cons_succ, List.getElem?_cons_zero]; rfl) (fun K hK => ?_) AllReadyH.nil
       clear hHeld
       go_simp
       refine (knownop_any _ _).mono ?_
       rintro e w' ⟨rfl, rfl⟩
       refine hK.out _ _ hx0 (fun hHeld => ?_)
       clear hK K
       try go_frame
       refine tkH 3 ?_ (fun W hSw => ?_) hHeld ?_
       rotate_left 1
       ·(clear hSw; first | (go_simp; done) | (go_simp; with_reducible rfl))
       try go_frame
       refine tkH 4 ?_ (fun W hSw => ?_) hHeld ?_
       rotate_left 1
       ·(try dsimp only at hSw); first | (go_simp; done) | (go_simp; with_reducible rfl)
       try go_frame
       refine tkH 5 ?_ (fun W hSw => ?_) hHeld ?_
       rotate_left 1
       ·(try dsimp only at hSw); first | (go_simp; done) | (go_simp; with_reducible rfl)
       try go_frame
       refine wpAnyH_ready (rs := [6]) (by kernel_rfl) (by simp) ?_
       refine AllReadyH.cons (o := _) (by simp only [List.getElem?_toArray, List.getElem?_cons_succ, List.getElem?_cons_zero]; rfl) (fun K hK => ?_) AllReadyH.nil
       clear hHeld
       go_simp
       refine (HUS.out _).mono ?_
       rintro e w1 ⟨rfl, hb1⟩
       have hB1 : Below w.heap.size w w1 := hb0.trans (hb1.mono hb0.size)
       have hx1 := ibox_next hx0 hX0 hb1
       have hX1 := Nat.lt_of_lt_of_le hX0 hb1.size
       refine hK.out _ _ hx1 (fun hHeld => ?_)
       clear hK K
       try go_frame
       refine tkH 7 ?_ (fun W hSw => ?_) hHeld ?_
       rotate_left 1
       ·(clear hSw; first | (go_simp; done) | (go_simp; with_reducible rfl))
       try go_frame
       refine tkH 8 ?_ (fun W hSw => ?_) hHeld ?_
       rotate_left 1
       ·(clear hSw; first | (go_simp; done) | (go_simp; with_reducible rfl))
       try go_frame
       refine tkH 9 ?_ (fun W hSw => ?_) hHeld ?_
       rotate_left 1
       ·(clear hSw; first | (go_simp; done) | (go_simp; with_reducible rfl))
       try go_frame
       refine wpAnyH_take (i := 10) (oi := _) (v := undef) (by simp only [List.getElem?_toArray, List.getElem?_cons_succ, List.getElem?_cons_zero]; rfl) (by kernel_rfl) (by kernel_rfl) (by kernel_rfl) (by intro _ _ _ h; exact h) (Or.inr ⟨by rfl, rfl⟩) hHeld ?_
       try go_frame
       refine wpAnyH_take (i := 11) (oi := _) (v := undef) (by simp only [List.getElem?_toArray, List.getElem?_cons_succ, List.getElem?_cons_zero]; rfl) (by kernel_rfl) (by kernel_rfl) (by kernel_rfl) (by intro _ _ _ h; exact h) (Or.inr ⟨by rfl, rfl⟩) hHeld ?_
       try go_frame
       refine tkH 12 ?_ (fun W hSw => ?_) hHeld ?_
       rotate_left 1
       ·(clear hSw; first | (go_simp; done) | (go_simp; with_reducible rfl))
       try go_frame
       refine tkH 13 ?_ (fun W hSw => ?_) hHeld ?_
       rotate_left 1
       ·(clear hSw; first | (go_simp; done) | (go_simp; with_reducible rfl))
       try go_frame
       refine wpAnyH_done (by kernel_rfl) ?_ _
       go_wp2_with fail
       go_ret
       exact ⟨ret_bool HF.out.symm, by first | exact hB2 | exact hB1 | exact hb0⟩
     ·have f1 : ¬ c.toList = c'.toList := fun h => ec (str_ext h)
      have f2 : ¬ c'.toList = c.toList := fun h => ec (str_ext h.symm)
      have f3 : (c.toList == c'.toList) = false := by rw [beq_eq_false_iff_ne]; exact f1
      have f4 : (c'.toList == c.toList) = false := by rw [beq_eq_false_iff_ne]; exact f2
      have HF : Hid (rightI (o, n, k, s, c, m, d) = false) := Lib.hid (by rw [HR.out, hk, decide_eq_false (by intro e; simp only [Prod.mk.injEq] at e; exact ec (by simp_all))]; rfl)
      clear HR
      go_enter Tryz.func193, Tryz.ntmps193
      go_wp2_with fail
      refine wp_region_held_drew (S := (fun w' => w'.cell? ⟨w.heap.size, 0, none⟩ = some (.int .i64 o) ∧ w'.cell? ⟨w.heap.size, 1, none⟩ = some (.int .i32 n) ∧ w'.cell? ⟨w.heap.size, 2, none⟩ = some (.int .i64 k) ∧ w'.cell? ⟨w.heap.size, 3, none⟩ = some (.string s) ∧ w'.cell? ⟨w.heap.size, 4, none⟩ = some (.string c) ∧ w'.cell? ⟨w.heap.size, 5, none⟩ = some (.string m) ∧ w'.cell? ⟨w.heap.size, 6, none⟩ = some (.string d))) (by kernel_rfl) hx0 (fun hHeld => ?_)
      refine wpAnyH_take (i := 0) (oi := _) (v := ?_) (by rfl) (by kernel_rfl) (by kernel_rfl) (by kernel_rfl) (by intro _ _ _ h; exact h) (Or.inl ⟨by rfl, fun W hSw => ?_⟩) hHeld ?_
      rotate_left 1
      ·(clear hSw; first | (go_simp; done) | (go_simp; with_reducible rfl))
      try go_frame
      refine tkH 1 ?_ (fun W hSw => ?_) hHeld ?_
      rotate_left 1
      ·(try dsimp only at hSw); first | (go_simp; done) | (go_simp; with_reducible rfl)
      try go_frame
      refine wpAnyH_ready (rs := [2]) (by kernel_rfl) (by simp) ?_
      refine AllReadyH.cons (o := _) (by simp only [List.getElem?_toArray, List.getElem?_cons_succ, List.getElem?_cons_zero]; rfl) (fun K hK => ?_) AllReadyH.nil
      clear hHeld
      go_simp
      refine (knownop_any _ _).mono ?_
      rintro e w' ⟨rfl, rfl⟩
      refine hK.out _ _ hx0 (fun hHeld => ?_)
      clear hK K
      try go_frame
      refine tkH 3 ?_ (fun W hSw => ?_) hHeld ?_
      rotate_left 1
      ·(clear hSw; first | (go_simp; done) | (go_simp; with_reducible rfl))
      try go_frame
      refine tkH 4 ?_ (fun W hSw => ?_) hHeld ?_
      rotate_left 1
      ·(try dsimp only at hSw); first | (go_simp; done) | (go_simp; with_reducible rfl)
      try go_frame
      refine tkH 5 ?_ (fun W hSw => ?_) hHeld ?_
      rotate_left 1
      ·(try dsimp only at hSw); first | (go_simp; done) | (go_simp; with_reducible rfl)
      try go_frame
      refine wpAnyH_ready (rs := [6]) (by kernel_rfl) (by simp) ?_
      refine AllReadyH.cons (o := _) (by simp only [List.getElem?_toArray, List.getElem?_cons_succ, List.getElem?_cons_zero]; rfl) (fun K hK => ?_) AllReadyH.nil
      clear hHeld
      go_simp
      refine (HUS.out _).mono ?_
      rintro e w1 ⟨rfl, hb1⟩
      have hB1 : Below w.heap.size w w1 := hb0.trans (hb1.mono hb0.size)
      have hx1 := ibox_next hx0 hX0 hb1
      have hX1 := Nat.lt_of_lt_of_le hX0 hb1.size
      refine hK.out _ _ hx1 (fun hHeld => ?_)
      clear hK K
      try go_frame
      refine tkH 7 ?_ (fun W hSw => ?_) hHeld ?_
      rotate_left 1
      ·(clear hSw; first | (go_simp; done) | (go_simp; with_reducible rfl))
      try go_frame
      refine tkH 8 ?_ (fun W hSw => ?_) hHeld ?_
      rotate_left 1
      ·(clear hSw; first | (go_simp; done) | (go_simp; with_reducible rfl))
      try go_frame
      refine tkH 9 ?_ (fun W hSw => ?_) hHeld ?_
      rotate_left 1
      ·(clear hSw; first | (go_simp; done) | (go_simp; with_reducible rfl))
      try go_frame
      refine wpAnyH_take (i := 10) (oi := _) (v := undef) (by simp only [List.getElem?_toArray, List.getElem?_cons_succ, List.getElem?_cons_zero]; rfl) (by kernel_rfl) (by kernel_rfl) (by kernel_rfl) (by intro _ _ _ h; exact h) (Or.inr ⟨by rfl, rfl⟩) hHeld ?_
      try go_frame
      refine wpAnyH_take (i := 11) (oi := _) (v := undef) (by simp only [List.getElem?_toArray, List.getElem?_cons_succ, List.getElem?_cons_zero]; rfl) (by kernel_rfl) (by kernel_rfl) (by kernel_rfl) (by intro _ _ _ h; exact h) (Or.inr ⟨by rfl, rfl⟩) hHeld ?_
      try go_frame
      refine tkH 12 ?_ (fun W hSw => ?_) hHeld ?_
      rotate_left 1
      ·(clear hSw; first | (go_simp; done) | (go_simp; with_reducible rfl))
      try go_frame
      refine tkH 13 ?_ (fun W hSw => ?_) hHeld ?_
      rotate_left 1
      ·(clear hSw; first | (go_simp; done) | (go_simp; with_reducible rfl))
      try go_frame
      refine wpAnyH_done (by kernel_rfl) ?_ _
      go_wp2_with fail
      go_ret
      exact ⟨ret_bool HF.out.symm, by first | exact hB2 | exact hB1 | exact hb0⟩
    ·have f1 : ¬ s.toList = s'.toList := fun h => es (str_ext h)
     have f2 : ¬ s'.toList = s.toList := fun h => es (str_ext h.symm)
     have f3 : (s.toList == s'.toList) = false := by rw [beq_eq_false_iff_ne]; exact f1
     have f4 : (s'.toList == s.toList) = false := by rw [beq_eq_false_iff_ne]; exact f2
     have HF : Hid (rightI (o, n, k, s, c, m, d) = false) := Lib.hid (by rw [HR.out, hk, decide_eq_false (by intro e; simp only [Prod.mk.injEq] at e; exact es (by simp_all))]; rfl)
     clear HR
     go_enter Tryz.func193, Tryz.ntmps193
     go_wp2_with fail
     refine wp_region_held_drew (S := (fun w' => w'.cell? ⟨w.heap.size, 0, none⟩ = some (.int .i64 o) ∧ w'.cell? ⟨w.heap.size, 1, none⟩ = some (.int .i32 n) ∧ w'.cell? ⟨w.heap.size, 2, none⟩ = some (.int .i64 k) ∧ w'.cell? ⟨w.heap.size, 3, none⟩ = some (.string s) ∧ w'.cell? ⟨w.heap.size, 4, none⟩ = some (.string c) ∧ w'.cell? ⟨w.heap.size, 5, none⟩ = some (.string m) ∧ w'.cell? ⟨w.heap.size, 6, none⟩ = some (.string d))) (by kernel_rfl) hx0 (fun hHeld => ?_)
     refine wpAnyH_take (i := 0) (oi := _) (v := ?_) (by rfl) (by kernel_rfl) (by kernel_rfl) (by kernel_rfl) (by intro _ _ _ h; exact h) (Or.inl ⟨by rfl, fun W hSw => ?_⟩) hHeld ?_
     rotate_left 1
     ·(clear hSw; first | (go_simp; done) | (go_simp; with_reducible rfl))
     try go_frame
     refine tkH 1 ?_ (fun W hSw => ?_) hHeld ?_
     rotate_left 1
     ·(try dsimp only at hSw); first | (go_simp; done) | (go_simp; with_reducible rfl)
     try go_frame
     refine wpAnyH_ready (rs := [2]) (by kernel_rfl) (by simp) ?_
     refine AllReadyH.cons (o := _) (by simp only [List.getElem?_toArray, List.getElem?_cons_succ, List.getElem?_cons_zero]; rfl) (fun K hK => ?_) AllReadyH.nil
     clear hHeld
     go_simp
     refine (knownop_any _ _).mono ?_
     rintro e w' ⟨rfl, rfl⟩
     refine hK.out _ _ hx0 (fun hHeld => ?_)
     clear hK K
     try go_frame
     refine tkH 3 ?_ (fun W hSw => ?_) hHeld ?_
     rotate_left 1
     ·(clear hSw; first | (go_simp; done) | (go_simp; with_reducible rfl))
     try go_frame
     refine tkH 4 ?_ (fun W hSw => ?_) hHeld ?_
     rotate_left 1
     ·(try dsimp only at hSw); first | (go_simp; done) | (go_simp; with_reducible rfl)
     try go_frame
     refine tkH 5 ?_ (fun W hSw => ?_) hHeld ?_
     rotate_left 1
     ·(try dsimp only at hSw); first | (go_simp; done) | (go_simp; with_reducible rfl)
     try go_frame
     refine wpAnyH_ready (rs := [6]) (by kernel_rfl) (by simp) ?_
     refine AllReadyH.cons (o := _) (by simp only [List.getElem?_toArray, List.getElem?_cons_succ, List.getElem?_cons_zero]; rfl) (fun K hK => ?_) AllReadyH.nil
     clear hHeld
     go_simp
     refine (HUS.out _).mono ?_
     rintro e w1 ⟨rfl, hb1⟩
     have hB1 : Below w.heap.size w w1 := hb0.trans (hb1.mono hb0.size)
     have hx1 := ibox_next hx0 hX0 hb1
     have hX1 := Nat.lt_of_lt_of_le hX0 hb1.size
     refine hK.out _ _ hx1 (fun hHeld => ?_)
     clear hK K
     try go_frame
     refine tkH 7 ?_ (fun W hSw => ?_) hHeld ?_
     rotate_left 1
     ·(clear hSw; first | (go_simp; done) | (go_simp; with_reducible rfl))
     try go_frame
     refine tkH 8 ?_ (fun W hSw => ?_) hHeld ?_
     rotate_left 1
     ·(clear hSw; first | (go_simp; done) | (go_simp; with_reducible rfl))
     try go_frame
     refine tkH 9 ?_ (fun W hSw => ?_) hHeld ?_
     rotate_left 1
     ·(clear hSw; first | (go_simp; done) | (go_simp; with_reducible rfl))
     try go_frame
     refine wpAnyH_take (i := 10) (oi := _) (v := undef) (by simp only [List.getElem?_toArray, List.getElem?_cons_succ, List.getElem?_cons_zero]; rfl) (by kernel_rfl) (by kernel_rfl) (by kernel_rfl) (by intro _ _ _ h; exact h) (Or.inr ⟨by rfl, rfl⟩) hHeld ?_
     try go_frame
     refine wpAnyH_take (i := 11) (oi := _) (v := undef) (by simp only [List.getElem?_toArray, List.getElem?_cons_succ, List.getElem?_cons_zero]; rfl) (by kernel_rfl) (by kernel_rfl) (by kernel_rfl) (by intro _ _ _ h; exact h) (Or.inr ⟨by rfl, rfl⟩) hHeld ?_
     try go_frame
     refine tkH 12 ?_ (fun W hSw => ?_) hHeld ?_
     rotate_left 1
     ·(clear hSw; first | (go_simp; done) | (go_simp; with_reducible rfl))
     try go_frame
     refine tkH 13 ?_ (fun W hSw => ?_) hHeld ?_
     rotate_left 1
     ·(clear hSw; first | (go_simp; done) | (go_simp; with_reducible rfl))
     try go_frame
     refine wpAnyH_done (by kernel_rfl) ?_ _
     go_wp2_with fail
     go_ret
     exact ⟨ret_bool HF.out.symm, by first | exact hB2 | exact hB1 | exact hb0⟩
   ·have f1 : ¬ k = k' := ek
    have f2 : ¬ k' = k := fun h => ek h.symm
    have f3 : (k == k') = false := by rw [beq_eq_false_iff_ne]; exact f1
    have f4 : (k' == k) = false := by rw [beq_eq_false_iff_ne]; exact f2
    have HF : Hid (rightI (o, n, k, s, c, m, d) = false) := Lib.hid (by rw [HR.out, hk, decide_eq_false (by intro e; simp only [Prod.mk.injEq] at e; exact ek (by simp_all))]; rfl)
    clear HR
    go_enter Tryz.func193, Tryz.ntmps193
    go_wp2_with fail
    refine wp_region_held_drew (S := (fun w' => w'.cell? ⟨w.heap.size, 0, none⟩ = some (.int .i64 o) ∧ w'.cell? ⟨w.heap.size, 1, none⟩ = some (.int .i32 n) ∧ w'.cell? ⟨w.heap.size, 2, none⟩ = some (.int .i64 k) ∧ w'.cell? ⟨w.heap.size, 3, none⟩ = some (.string s) ∧ w'.cell? ⟨w.heap.size, 4, none⟩ = some (.string c) ∧ w'.cell? ⟨w.heap.size, 5, none⟩ = some (.string m) ∧ w'.cell? ⟨w.heap.size, 6, none⟩ = some (.string d))) (by kernel_rfl) hx0 (fun hHeld => ?_)
    refine wpAnyH_take (i := 0) (oi := _) (v := ?_) (by rfl) (by kernel_rfl) (by kernel_rfl) (by kernel_rfl) (by intro _ _ _ h; exact h) (Or.inl ⟨by rfl, fun W hSw => ?_⟩) hHeld ?_
    rotate_left 1
    ·(clear hSw; first | (go_simp; done) | (go_simp; with_reducible rfl))
    try go_frame
    refine tkH 1 ?_ (fun W hSw => ?_) hHeld ?_
    rotate_left 1
    ·(try dsimp only at hSw); first | (go_simp; done) | (go_simp; with_reducible rfl)
    try go_frame
    refine wpAnyH_ready (rs := [2]) (by kernel_rfl) (by simp) ?_
    refine AllReadyH.cons (o := _) (by simp only [List.getElem?_toArray, List.getElem?_cons_succ, List.getElem?_cons_zero]; rfl) (fun K hK => ?_) AllReadyH.nil
    clear hHeld
    go_simp
    refine (knownop_any _ _).mono ?_
    rintro e w' ⟨rfl, rfl⟩
    refine hK.out _ _ hx0 (fun hHeld => ?_)
    clear hK K
    try go_frame
    refine tkH 3 ?_ (fun W hSw => ?_) hHeld ?_
    rotate_left 1
    ·(clear hSw; first | (go_simp; done) | (go_simp; with_reducible rfl))
    try go_frame
    refine tkH 4 ?_ (fun W hSw => ?_) hHeld ?_
    rotate_left 1
    ·(try dsimp only at hSw); first | (go_simp; done) | (go_simp; with_reducible rfl)
    try go_frame
    refine tkH 5 ?_ (fun W hSw => ?_) hHeld ?_
    rotate_left 1
    ·(try dsimp only at hSw); first | (go_simp; done) | (go_simp; with_reducible rfl)
    try go_frame
    refine wpAnyH_ready (rs := [6]) (by kernel_rfl) (by simp) ?_
    refine AllReadyH.cons (o := _) (by simp only [List.getElem?_toArray, List.getElem?_cons_succ, List.getElem?_cons_zero]; rfl) (fun K hK => ?_) AllReadyH.nil
    clear hHeld
    go_simp
    refine (HUS.out _).mono ?_
    rintro e w1 ⟨rfl, hb1⟩
    have hB1 : Below w.heap.size w w1 := hb0.trans (hb1.mono hb0.size)
    have hx1 := ibox_next hx0 hX0 hb1
    have hX1 := Nat.lt_of_lt_of_le hX0 hb1.size
    refine hK.out _ _ hx1 (fun hHeld => ?_)
    clear hK K
    try go_frame
    refine tkH 7 ?_ (fun W hSw => ?_) hHeld ?_
    rotate_left 1
    ·(clear hSw; first | (go_simp; done) | (go_simp; with_reducible rfl))
    try go_frame
    refine tkH 8 ?_ (fun W hSw => ?_) hHeld ?_
    rotate_left 1
    ·(clear hSw; first | (go_simp; done) | (go_simp; with_reducible rfl))
    try go_frame
    refine tkH 9 ?_ (fun W hSw => ?_) hHeld ?_
    rotate_left 1
    ·(clear hSw; first | (go_simp; done) | (go_simp; with_reducible rfl))
    try go_frame
    refine wpAnyH_take (i := 10) (oi := _) (v := undef) (by simp only [List.getElem?_toArray, List.getElem?_cons_succ, List.getElem?_cons_zero]; rfl) (by kernel_rfl) (by kernel_rfl) (by kernel_rfl) (by intro _ _ _ h; exact h) (Or.inr ⟨by rfl, rfl⟩) hHeld ?_
    try go_frame
    refine wpAnyH_take (i := 11) (oi := _) (v := undef) (by simp only [List.getElem?_toArray, List.getElem?_cons_succ, List.getElem?_cons_zero]; rfl) (by kernel_rfl) (by kernel_rfl) (by kernel_rfl) (by intro _ _ _ h; exact h) (Or.inr ⟨by rfl, rfl⟩) hHeld ?_
    try go_frame
    refine tkH 12 ?_ (fun W hSw => ?_) hHeld ?_
    rotate_left 1
    ·(clear hSw; first | (go_simp; done) | (go_simp; with_reducible rfl))
    try go_frame
    refine tkH 13 ?_ (fun W hSw => ?_) hHeld ?_
    rotate_left 1
    ·(clear hSw; first | (go_simp; done) | (go_simp; with_reducible rfl))
    try go_frame
    refine wpAnyH_done (by kernel_rfl) ?_ _
    go_wp2_with fail
    go_ret
    exact ⟨ret_bool HF.out.symm, by first | exact hB2 | exact hB1 | exact hb0⟩
  ·have f1 : ¬ n = n' := en
   have f2 : ¬ n' = n := fun h => en h.symm
   have f3 : (n == n') = false := by rw [beq_eq_false_iff_ne]; exact f1
   have f4 : (n' == n) = false := by rw [beq_eq_false_iff_ne]; exact f2
   have HF : Hid (rightI (o, n, k, s, c, m, d) = false) := Lib.hid (by rw [HR.out, hk, decide_eq_false (by intro e; simp only [Prod.mk.injEq] at e; exact en (by simp_all))]; rfl)
   clear HR
   go_enter Tryz.func193, Tryz.ntmps193
   go_wp2_with fail
   refine wp_region_held_drew (S := (fun w' => w'.cell? ⟨w.heap.size, 0, none⟩ = some (.int .i64 o) ∧ w'.cell? ⟨w.heap.size, 1, none⟩ = some (.int .i32 n) ∧ w'.cell? ⟨w.heap.size, 2, none⟩ = some (.int .i64 k) ∧ w'.cell? ⟨w.heap.size, 3, none⟩ = some (.string s) ∧ w'.cell? ⟨w.heap.size, 4, none⟩ = some (.string c) ∧ w'.cell? ⟨w.heap.size, 5, none⟩ = some (.string m) ∧ w'.cell? ⟨w.heap.size, 6, none⟩ = some (.string d))) (by kernel_rfl) hx0 (fun hHeld => ?_)
   refine wpAnyH_take (i := 0) (oi := _) (v := ?_) (by rfl) (by kernel_rfl) (by kernel_rfl) (by kernel_rfl) (by intro _ _ _ h; exact h) (Or.inl ⟨by rfl, fun W hSw => ?_⟩) hHeld ?_
   rotate_left 1
   ·(clear hSw; first | (go_simp; done) | (go_simp; with_reducible rfl))
   try go_frame
   refine tkH 1 ?_ (fun W hSw => ?_) hHeld ?_
   rotate_left 1
   ·(try dsimp only at hSw); first | (go_simp; done) | (go_simp; with_reducible rfl)
   try go_frame
   refine wpAnyH_ready (rs := [2]) (by kernel_rfl) (by simp) ?_
   refine AllReadyH.cons (o := _) (by simp only [List.getElem?_toArray, List.getElem?_cons_succ, List.getElem?_cons_zero]; rfl) (fun K hK => ?_) AllReadyH.nil
   clear hHeld
   go_simp
   refine (knownop_any _ _).mono ?_
   rintro e w' ⟨rfl, rfl⟩
   refine hK.out _ _ hx0 (fun hHeld => ?_)
   clear hK K
   try go_frame
   refine tkH 3 ?_ (fun W hSw => ?_) hHeld ?_
   rotate_left 1
   ·(clear hSw; first | (go_simp; done) | (go_simp; with_reducible rfl))
   try go_frame
   refine tkH 4 ?_ (fun W hSw => ?_) hHeld ?_
   rotate_left 1
   ·(try dsimp only at hSw); first | (go_simp; done) | (go_simp; with_reducible rfl)
   try go_frame
   refine tkH 5 ?_ (fun W hSw => ?_) hHeld ?_
   rotate_left 1
   ·(try dsimp only at hSw); first | (go_simp; done) | (go_simp; with_reducible rfl)
   try go_frame
   refine wpAnyH_ready (rs := [6]) (by kernel_rfl) (by simp) ?_
   refine AllReadyH.cons (o := _) (by simp only [List.getElem?_toArray, List.getElem?_cons_succ, List.getElem?_cons_zero]; rfl) (fun K hK => ?_) AllReadyH.nil
   clear hHeld
   go_simp
   refine (HUS.out _).mono ?_
   rintro e w1 ⟨rfl, hb1⟩
   have hB1 : Below w.heap.size w w1 := hb0.trans (hb1.mono hb0.size)
   have hx1 := ibox_next hx0 hX0 hb1
   have hX1 := Nat.lt_of_lt_of_le hX0 hb1.size
   refine hK.out _ _ hx1 (fun hHeld => ?_)
   clear hK K
   try go_frame
   refine tkH 7 ?_ (fun W hSw => ?_) hHeld ?_
   rotate_left 1
   ·(clear hSw; first | (go_simp; done) | (go_simp; with_reducible rfl))
   try go_frame
   refine tkH 8 ?_ (fun W hSw => ?_) hHeld ?_
   rotate_left 1
   ·(clear hSw; first | (go_simp; done) | (go_simp; with_reducible rfl))
   try go_frame
   refine tkH 9 ?_ (fun W hSw => ?_) hHeld ?_
   rotate_left 1
   ·(clear hSw; first | (go_simp; done) | (go_simp; with_reducible rfl))
   try go_frame
   refine wpAnyH_take (i := 10) (oi := _) (v := undef) (by simp only [List.getElem?_toArray, List.getElem?_cons_succ, List.getElem?_cons_zero]; rfl) (by kernel_rfl) (by kernel_rfl) (by kernel_rfl) (by intro _ _ _ h; exact h) (Or.inr ⟨by rfl, rfl⟩) hHeld ?_
   try go_frame
   refine wpAnyH_take (i := 11) (oi := _) (v := undef) (by simp only [List.getElem?_toArray, List.getElem?_cons_succ, List.getElem?_cons_zero]; rfl) (by kernel_rfl) (by kernel_rfl) (by kernel_rfl) (by intro _ _ _ h; exact h) (Or.inr ⟨by rfl, rfl⟩) hHeld ?_
   try go_frame
   refine tkH 12 ?_ (fun W hSw => ?_) hHeld ?_
   rotate_left 1
   ·(clear hSw; first | (go_simp; done) | (go_simp; with_reducible rfl))
   try go_frame
   refine tkH 13 ?_ (fun W hSw => ?_) hHeld ?_
   rotate_left 1
   ·(clear hSw; first | (go_simp; done) | (go_simp; with_reducible rfl))
   try go_frame
   refine wpAnyH_done (by kernel_rfl) ?_ _
   go_wp2_with fail
   go_ret
   exact ⟨ret_bool HF.out.symm, by first | exact hB2 | exact hB1 | exact hb0⟩
end Go.Proofs.YtijnimjmimeefaaGreat.O
namespace Go.Proofs.YtijnimjmimeefaaGreat.O
open Go.Proofs.YtijnimjmimeefaaGreat.D
open Go.RowKit
theorem samev_any (o n k o' n' k' : Int) (s c m d s' c' m' d' : ByteArray) (w : World) :
  Calls Tryz.prog 133 #[.agg #[.int .i64 o, .int .i32 n, .int .i64 k, .string s, .string c, .string m, .string d], .agg #[.int .i64 o', .int .i32 n', .int .i64 k', .string s', .string c', .string m', .string d']] w fun e w' => e = .returned (.bool (decide ((o, n, k, s, c, m, d) = (o', n', k', s', c', m', d')))) ∧ Below w.heap.size w w' := by
 have := same_any o n k o' n' k' s c m d s' c' m' d' w
 rw [insV_mk, insV_mk] at this
 exact this
end Go.Proofs.YtijnimjmimeefaaGreat.O
namespace Go.Proofs.YtijnimjmimeefaaGreat.D
open Go.RowKit
set_option maxRecDepth 100000 in
theorem bld_ptr : Tryz.prog.underlying 244 = some (.pointer 246) := Tryz.underlying244
set_option maxRecDepth 100000 in
theorem bld_uns : Tryz.prog.underlying 259 = some .unsafePointer := Tryz.underlying259
set_option maxRecDepth 100000 in
theorem bld_size : (Tryz.prog.info? 246).map (·.size) = some 2 := by kernel_rfl
set_option maxRecDepth 100000 in
theorem bld_lies : liesAt Tryz.prog Tryz.prog.depth 246 (2 / Tryz.prog.cellsOf 246) 0 246 1 = true := by kernel_rfl
set_option maxRecDepth 100000 in
theorem bld_info : (Tryz.prog.info? 5).map (fun i => (i.zero, i.size, i.bytes)) = some (some (.int .u8 0), 1, 1) := by kernel_rfl
def Bld (w : World) (B b : Nat) (l : List UInt8) : Prop := Lib.IsBuilder 246 5 B b (Lib.byteCells l) w
theorem Bld.lt {w : World} {B b : Nat} {l : List UInt8} (h : Bld w B b l) : b < w.heap.size := by
 rcases h with h | h <;> exact h.lt
theorem Bld.le {w : World} {B b : Nat} {l : List UInt8} (h : Bld w B b l) : B ≤ b := by
 rcases h with h | h <;> exact h.1
theorem ownsRow_below {w w' : World} {B C : Nat} {E : TypeId} {v : Value} {n : Nat} {l : List Value} (h : w.ownsRow B E 1 v n l) (hb : Below C w w') (hC : ∀ g, v.ownBlock = some g → g < C) : w'.ownsRow B E 1 v n l := by
 refine ⟨h.1, ?_⟩
 rcases h.2 with h' | ⟨g, cap, cur, e, hB, hg, r⟩
 ·exact .inl h'
 ·refine .inr ⟨g, cap, cur, e, hB, ?_, r⟩
  rw [hb.block g (hC g (by rw [e]; rfl))]
  exact hg
theorem bldAt_below {w w' : World} {B C b : Nat} {T E : TypeId} {p : Value} {l : List Value} (h : Lib.BuilderAt T E B b p l w) (hb : Below C w w') (hC : w.heap.size ≤ C) : Lib.BuilderAt T E B b p l w' := by
 have hlt := h.lt
 obtain ⟨h1, v, h2, h3, h4⟩ := h
 refine ⟨h1, v, ?_, ?_, h4⟩
 ·rw [hb.block b (by omega)]; exact h2
 ·exact ownsRow_below h3 hb (fun g hg => Nat.lt_of_lt_of_le (h3.lt g hg).2 hC)
theorem Bld.below {w w' : World} {B C b : Nat} {l : List UInt8} (h : Bld w B b l) (hb : Below C w w') (hC : w.heap.size ≤ C) : Bld w' B b l := by
 rcases h with h | h
 ·exact .inl (bldAt_below h hb hC)
 ·exact .inr (bldAt_below h hb hC)
set_option maxHeartbeats 1000000 in
set_option maxRecDepth 100000 in
set_option maxRecDepth 100000 in
theorem bld_check_fresh (b : Nat) (w : World) (h0 : w.cell? ⟨b, 0, none⟩ = some (.pointer none)) (hsh : w.shape? b = some (246, 2)) (hfz : w.frozen? ⟨b, 0, none⟩ = false) :
  Calls Tryz.prog 210 #[.pointer (some ⟨b, 0, none⟩)] w fun e w' => e = .returned (.tuple #[]) ∧ w' = w.setCell ⟨b, 0, none⟩ (.pointer (some ⟨b, 0, none⟩)) := by
 obtain ⟨j, hj, hjs⟩ := Option.map_eq_some_iff.1 bld_size
 go_enter Tryz.func210, Tryz.ntmps210
 go_wp2_with fail
 rw [Lib.run_to_unsafe w ⟨b, 0, none⟩ bld_ptr bld_uns hj (by rw [hjs]; decide) hsh (Nat.zero_lt_succ 1)]
 simp only [Result.andThen]
 rw [Oper.upon_value]
 go_wp2_with fail
 rw [run_callFunc_extern Tryz.func215 (by kernel_rfl) (by kernel_rfl) (by kernel_rfl) (e := Extern.AbiNoEscape.same) (by kernel_rfl)]
 rw [Lib.run_noEscape]
 simp only [Result.andThen]
 rw [Oper.upon_value]
 go_wp2_with fail
 rw [Lib.run_from_unsafe w ⟨b, 0, none⟩ bld_uns bld_ptr hj hsh bld_lies]
 simp only [Result.andThen]
 rw [Oper.upon_value]
 go_wp2_with fail
 go_end0
 exact ⟨rfl, rfl⟩
set_option maxRecDepth 100000 in
theorem bld_check_used (b : Nat) (w : World) (h0 : w.cell? ⟨b, 0, none⟩ = some (.pointer (some ⟨b, 0, none⟩))) :
  Calls Tryz.prog 210 #[.pointer (some ⟨b, 0, none⟩)] w fun e w' => e = .returned (.tuple #[]) ∧ w' = w := by
 obtain ⟨j, hj, _⟩ := Option.map_eq_some_iff.1 bld_size
 go_enter Tryz.func210, Tryz.ntmps210
 go_wp2_with fail
 rw [Lib.run_neq_ptr_same w _ bld_ptr hj]
 go_wp2_with fail
 go_end0
 exact ⟨rfl, rfl⟩
set_option maxRecDepth 100000 in
theorem bld_check (B b : Nat) (l : List UInt8) (w : World) (h : Bld w B b l) :
  Calls Tryz.prog 210 #[.pointer (some ⟨b, 0, none⟩)] w fun e w' => e = .returned (.tuple #[]) ∧ Lib.BuilderAt 246 5 B b (.pointer (some ⟨b, 0, none⟩)) (Lib.byteCells l) w' ∧ Below B w w' := by
 rcases h with h | h
 ·refine (bld_check_fresh b w h.cell0 h.shape h.frozen0).mono ?_
  rintro e w' ⟨rfl, rfl⟩
  exact ⟨rfl, h.used _, (Below.refl B w).setCell (p := ⟨b, 0, none⟩) h.1 _⟩
 ·refine (bld_check_used b w h.cell0).mono ?_
  rintro e w' ⟨rfl, rfl⟩
  exact ⟨rfl, h, Below.refl B _⟩
set_option maxHeartbeats 2000000 in
set_option maxRecDepth 100000 in
set_option maxRecDepth 100000 in
theorem bld_byte (B b : Nat) (l : List UInt8) (c : Int) (x : UInt8) (hx : c = (x.toNat : Int)) (w : World) (h : Bld w B b l) (hlen : l.length + 1 ≤ 140737488355328) (hBw : B ≤ w.heap.size) :
  Calls Tryz.prog 197 #[.pointer (some ⟨b, 0, none⟩), .int .u8 c] w fun e w' => e = .returned .nilIface ∧ Bld w' B b (l ++ [x]) ∧ Below B w w' := by
 obtain ⟨i0, hi, hz0, hz1, hz2⟩ := info_parts bld_info
 have HX := Lib.hid hx
 clear hx
 go_enter Tryz.func197, Tryz.ntmps197
 go_wp2_with (go_at_call 210; refine (bld_check B b l _ h).mono ?_)
 rintro e w1 ⟨rfl, h1, hb1⟩
 obtain ⟨hB, v, hbk, hown, hne⟩ := h1
 have hs1 := hb1.size
 have c0 : w1.cell? ⟨b, 0, none⟩ = some (.pointer (some ⟨b, 0, none⟩)) := by rw [Lib.cell_of_heap hbk]; rfl
 have c1 : w1.cell? ⟨b, 1, none⟩ = some v := by rw [Lib.cell_of_heap hbk]; rfl
 go_wp2_with (at_builtin; refine wpList_append_own _ rfl _ _ 26 rfl B 5 i0 (.int .u8 0) 1 1 Tryz.underlying26 hi hz0 hz1 hz2 rfl (by decide) _ _ _ rfl (hown.alloc _) ⟨w1.heap.size, 0, none⟩ 1 1 [.int .u8 c] rfl rfl ?c1 ?c2 ?c3 ?c4 ?c5 ?_)
 case c1 =>
  intro j u hj
  match j, hj with
  | 0, hj => simp at hj; subst hj; simp [Addr.add]
 case c2 => intro u hu; simp at hu; subst hu; rfl
 case c3 => rw [Lib.byteCells_length]; unfold maxLen; omega
 case c4 => rw [Lib.byteCells_length]; omega
 case c5 => simp; omega
 intro v' w2 hown' hgrow _
 have hlt : b < w1.heap.size := by
  rcases Nat.lt_or_ge b w1.heap.size with h' | h'
  ·exact h'
  ·simp [Array.getElem?_eq_none h'] at hbk
 have hb2 : w2.heap[b]? = some (.cells #[.pointer (some ⟨b, 0, none⟩), v] 246 (0, 0)) := by
  rw [hgrow.block b (by simp; omega) (fun e => hne e.symm), Lib.alloc_old w1 _ b hlt]
  exact hbk
 have d0 : w2.cell? ⟨b, 0, none⟩ = some (.pointer (some ⟨b, 0, none⟩)) := by rw [Lib.cell_of_heap hb2]; rfl
 have d1 : w2.cell? ⟨b, 1, none⟩ = some v := by rw [Lib.cell_of_heap hb2]; rfl
 have f1 : w2.frozen? ⟨b, 1, none⟩ = false := Lib.frozen_of_heap hb2 1
 obtain ⟨g, cap, rfl⟩ : ∃ g cap, v' = .slice (some ⟨g, 0, none⟩) ((Lib.byteCells l).length + 1) cap := by
  rcases hown'.2 with ⟨_, h0⟩ | ⟨g, cap, cur, hv, _⟩
  ·omega
  ·exact ⟨g, cap, hv⟩
 go_wp2_with fail
 go_ret
 have e : Lib.byteCells (l ++ [x]) = Lib.byteCells l ++ [.int .u8 c] := by rw [HX.out]; simp [Lib.byteCells]
 refine ⟨rfl, .inr ?_, ?_⟩
 ·rw [e]
  exact Lib.BuilderAt.put (T := 246) (e := 5) hB hb2 (bs' := Lib.byteCells l ++ [.int .u8 c]) (by simpa using hown') (by decide)
 ·exact ((hb1.alloc (by omega) _).grown hgrow (by simp; omega) (fun k hk => (hown.lt k hk).1)).setCell (p := ⟨b, 1, none⟩) hB _
set_option maxHeartbeats 2000000 in
set_option maxRecDepth 100000 in
set_option maxRecDepth 100000 in
theorem bld_str (B b : Nat) (l : List UInt8) (s : ByteArray) (w : World) (h : Bld w B b l) (hlen : l.length + s.size ≤ 140737488355328) (hBw : B ≤ w.heap.size) :
  Calls Tryz.prog 198 #[.pointer (some ⟨b, 0, none⟩), .string s] w fun e w' => e = .returned (.tuple #[.int .i64 s.size, .nilIface]) ∧ Bld w' B b (l ++ s.data.toList) ∧ Below B w w' := by
 obtain ⟨i0, hi, hz0, hz1, hz2⟩ := info_parts bld_info
 go_enter Tryz.func198, Tryz.ntmps198
 go_wp2_with (go_at_call 210; refine (bld_check B b l _ h).mono ?_)
 rintro e w1 ⟨rfl, h1, hb1⟩
 obtain ⟨hB, v, hbk, hown, hne⟩ := h1
 have hs1 := hb1.size
 have c0 : w1.cell? ⟨b, 0, none⟩ = some (.pointer (some ⟨b, 0, none⟩)) := by rw [Lib.cell_of_heap hbk]; rfl
 have c1 : w1.cell? ⟨b, 1, none⟩ = some v := by rw [Lib.cell_of_heap hbk]; rfl
 go_wp2_with (at_builtin; refine Lib.wpList_append_own_string _ rfl _ _ 26 9 rfl B 5 i0 Tryz.underlying26 Tryz.underlying9 hi hz0 hz1 hz2 _ _ _ rfl hown s rfl ?c3 ?c4 ?c5 ?_)
 case c3 => rw [Lib.byteCells_length]; unfold maxLen; omega
 case c4 => rw [Lib.byteCells_length]; omega
 case c5 => omega
 intro v' w2 hown' hgrow _
 have hlt : b < w1.heap.size := by
  rcases Nat.lt_or_ge b w1.heap.size with h' | h'
  ·exact h'
  ·simp [Array.getElem?_eq_none h'] at hbk
 have hb2 : w2.heap[b]? = some (.cells #[.pointer (some ⟨b, 0, none⟩), v] 246 (0, 0)) := by
  rw [hgrow.block b hlt (fun e => hne e.symm)]
  exact hbk
 have d0 : w2.cell? ⟨b, 0, none⟩ = some (.pointer (some ⟨b, 0, none⟩)) := by rw [Lib.cell_of_heap hb2]; rfl
 have d1 : w2.cell? ⟨b, 1, none⟩ = some v := by rw [Lib.cell_of_heap hb2]; rfl
 have f1 : w2.frozen? ⟨b, 1, none⟩ = false := Lib.frozen_of_heap hb2 1
 obtain ⟨ao, n', cap, rfl⟩ : ∃ ao n' cap, v' = .slice ao n' cap := by
  rcases hown'.2 with ⟨hv, _⟩ | ⟨g, cap, cur, hv, _⟩
  ·exact ⟨_, _, _, hv⟩
  ·exact ⟨_, _, _, hv⟩
 go_wp2_with fail
 go_ret2
 have e : Lib.byteCells (l ++ s.data.toList) = Lib.byteCells l ++ Lib.strCells s := by simp [Lib.byteCells, Lib.strCells]
 refine ⟨rfl, .inr ?_, ?_⟩
 ·rw [e]
  exact Lib.BuilderAt.put (T := 246) (e := 5) hB hb2 (bs' := Lib.byteCells l ++ Lib.strCells s) (by simpa [Lib.strCells_length] using hown') (by decide)
 ·exact (hb1.grown hgrow (by omega) (fun k hk => (hown.lt k hk).1)).setCell (p := ⟨b, 1, none⟩) hB _
set_option maxRecDepth 100000 in
theorem bld_done (B b : Nat) (l : List UInt8) (w : World) (h : Bld w B b l) (hBw : B ≤ w.heap.size) :
  Calls Tryz.prog 199 #[.pointer (some ⟨b, 0, none⟩)] w fun e w' => e = .returned (.string ⟨l.toArray⟩) ∧ Below B w w' :=
 Tryz.Builder_String_any B b l w h hBw
set_option maxRecDepth 100000 in
theorem bld_new (w : World) : Bld (w.alloc (.cells #[.pointer none, .slice none 0 0] 246)) w.heap.size w.heap.size [] := Lib.fresh_isBuilder _ _ w
end Go.Proofs.YtijnimjmimeefaaGreat.D
namespace Go.Proofs.YtijnimjmimeefaaGreat.D
open Go.RowKit
theorem RdT.drew {w : World} {v : Value} {ts : List Ty} (h : RdT w v ts) : RdT w.drew v ts := h
theorem typeL_len (t : Ty) : (typeL t).length ≤ t.2.size + 2 := by
 unfold typeL typeT
 split
 ·show 1 ≤ _; omega
 split
 ·show 1 ≤ _; omega
 split
 ·show 1 ≤ _; omega
 split
 ·show 1 ≤ _; omega
 split
 ·rw [data_app, data_app, List.length_append, List.length_append, Lib.size_eq]
  show 1 + _ + 1 ≤ _
  omega
 ·show 0 ≤ _; omega
theorem flat_len (ts : List Ty) (m : Nat) (h : ∀ u ∈ ts, u.2.size ≤ m) : (ts.flatMap typeL).length ≤ ts.length * (m + 2) := by
 induction ts with
 | nil => simp
 | cons t ts ih =>
  have h1 := ih (fun u hu => h u (List.mem_cons_of_mem _ hu))
  have h2 := typeL_len t
  have h3 := h t (List.mem_cons_self ..)
  rw [List.flatMap_cons, List.length_append, List.length_cons, Nat.add_mul]
  omega
theorem flat_take (ts : List Ty) (k : Nat) (t : Ty) (h : ts[k]? = some t) : (ts.take (k + 1)).flatMap typeL = (ts.take k).flatMap typeL ++ typeL t := by
 obtain ⟨hk, rfl⟩ := List.getElem?_eq_some_iff.1 h
 rw [List.take_succ_eq_append_getElem hk, List.flatMap_append, List.flatMap_cons, List.flatMap_nil, List.append_nil]
theorem flat_take_len (ts : List Ty) (k m : Nat) (h : ∀ u ∈ ts, u.2.size ≤ m) : ((ts.take k).flatMap typeL).length ≤ ts.length * (m + 2) := by
 refine Nat.le_trans (flat_len (ts.take k) m (fun u hu => h u (List.mem_of_mem_take hu))) ?_
 exact Nat.mul_le_mul_right _ (by rw [List.length_take]; omega)
set_option maxHeartbeats 1000000 in
theorem of_any (v : Value) (ts : List Ty) (k0 : Int) (c0 : ByteArray) (w : World) (hr : RdT w v ts) (hlen : ts.length ≤ 1000) (hc : ∀ u ∈ ts, u.2.size ≤ 1000000) (ht : c0.size ≤ 1000000) :
  Calls Tryz.prog 167 #[v, .agg #[.int .i64 k0, .string c0]] w fun e w' => e = .returned (.string (bx (ofL ts (k0, c0)))) ∧ Below w.heap.size w w' := by
 obtain ⟨p, cap, rfl, h1, h2, h3⟩ := id hr
 have HC := Lib.hid hc
 have HT : Hid (∀ k, ((ts.take k).flatMap typeL).length ≤ ts.length * 1000002) := Lib.hid (fun k => flat_take_len ts k 1000000 hc)
 have HL := Lib.hid (typeL_len (k0, c0))
 have HR := Lib.hid hr
 clear hc hr h1 h2 h3
 go_enter Tryz.func167, Tryz.ntmps167
 go_wp2_with fail
 refine (bld_byte (w.heap.size + 1) (w.heap.size + 1) [] 40 40 rfl _ ?_ (by decide) (by simp)).mono ?_
 ·have := bld_new (w.alloc (.cells #[.int .i64 k0, .string c0] 55))
  simpa using this
 rintro e w1 ⟨rfl, hB1, hb1⟩
 have hbl1 : Below (w.heap.size + 1) (w.alloc (.cells #[.int .i64 k0, .string c0] 55)) w1 := ((Below.refl _ _).alloc (by simp) _).trans hb1
 clear hb1
 go_wp2_with fail
 go_loopw [11] (fun i wr => ∃ k : Nat, k ≤ ts.length ∧ i = .int .i64 k ∧ Bld wr (w.heap.size + 1) (w.heap.size + 1) (40 :: (ts.take k).flatMap typeL) ∧ Below (w.heap.size + 1) (w.alloc (.cells #[.int .i64 k0, .string c0] 55)) wr) (fun i _ => ts.length - (intOf i).toNat)
 case atStart => exact ⟨0, Nat.zero_le _, rfl, by simpa using hB1, hbl1⟩
 case round =>
  clear hB1 hbl1
  obtain ⟨k, hk, rfl, hB, hbl⟩ := hrel
  have hs := hbl.size
  simp at hs
  by_cases hlt : k < ts.length
  ·obtain ⟨⟨x0, x1⟩, hx⟩ : ∃ t, ts[k]? = some t := ⟨_, List.getElem?_eq_getElem hlt⟩
   have hr2 := HR.out.below (((Below.refl w.heap.size w).alloc (Nat.le_refl _) (.cells #[.int .i64 k0, .string c0] 55)).trans (hbl.mono (by omega))) (Nat.le_refl _)
   obtain ⟨p', cap', e', g1, _, g3⟩ := hr2
   simp only [Value.slice.injEq, true_and] at e'
   obtain ⟨rfl, rfl⟩ := e'
   obtain ⟨⟨b, off, spot⟩, rfl⟩ : ∃ a, p = some a := by
    cases p with
    | none =>
     obtain ⟨p'', _, e'', _, g2, _⟩ := HR.out
     simp only [Value.slice.injEq] at e''
     have := g2 e''.1.symm
     subst this
     simp at hlt
    | some a => exact ⟨a, rfl⟩
   obtain rfl : spot = none := g1 _ rfl (fun e => by subst e; simp at hlt)
   obtain ⟨cx0, cx1⟩ := g3 _ rfl k _ hx
   simp only at cx0 cx1
   have hx1 := HC.out _ (List.mem_of_getElem? hx)
   simp only at hx1
   have HX := Lib.hid (flat_take ts k _ hx)
   have hTL := HT.out k
   have hTy := typeL_len (x0, x1)
   simp only at hTy
   clear g1 g3 hx
   go_wp2_with fail
   refine (type_any x0 x1 _ (by omega)).mono ?_
   rintro e w2 ⟨rfl, hb2⟩
   have hB2 := hB.below (((Below.refl wr.heap.size wr).alloc (Nat.le_refl _) _).trans (hb2.mono (by simp))) (Nat.le_refl _)
   have hs2 := hb2.size
   simp at hs2
   go_wp2_with fail
   refine (bld_str _ _ _ _ _ hB2 ?_ ?_).mono ?_
   ·show _ + (typeT x0 x1).size ≤ _
    rw [Lib.size_eq]
    show _ + (typeL (x0, x1)).length ≤ _
    simp only [List.length_cons]
    omega
   ·omega
   rintro e w3 ⟨rfl, hB3, hb3⟩
   have hbl3 : Below (w.heap.size + 1) (w.alloc (.cells #[.int .i64 k0, .string c0] 55)) w3 := ((hbl.alloc (by omega) _).trans (hb2.mono (by simp; omega))).trans hb3
   have hB3' : Bld w3 (w.heap.size + 1) (w.heap.size + 1) (40 :: (ts.take (k + 1)).flatMap typeL) := by rw [HX.out]; exact hB3
   clear hB3 hb3 hbl hB hB2 hb2 hTL hTy hs2 cx0 cx1
   go_wp2_with fail
   go_roundw
   case rel => exact ⟨k + 1, by omega, by go_num, hB3', hbl3⟩
   case measure => simp [intOf]; omega
  ·have hkk : k = ts.length := by omega
   have hTL := HT.out k
   have HK : Hid ((ts.take k).flatMap typeL = ts.flatMap typeL) := Lib.hid (by rw [List.take_of_length_le (by omega)])
   have hTy := HL.out
   have hc0 : wr.cell? ⟨w.heap.size, 0, none⟩ = some (.int .i64 k0) := (hbl.cell (p := ⟨w.heap.size, 0, none⟩) (by simp)).trans (by simp)
   have hc1 : wr.cell? ⟨w.heap.size, 1, none⟩ = some (.string c0) := (hbl.cell (p := ⟨w.heap.size, 1, none⟩) (by simp)).trans (by simp)
   clear hkk
   go_wp2_with fail
   refine (bld_byte (w.heap.size + 1) (w.heap.size + 1) _ 41 41 rfl _ hB (by simp only [List.length_cons]; omega) (by omega)).mono ?_
   rintro e w4 ⟨rfl, hB4, hb4⟩
   have hd0 : w4.cell? ⟨w.heap.size, 0, none⟩ = some (.int .i64 k0) := (hb4.cell (p := ⟨w.heap.size, 0, none⟩) (by simp)).trans hc0
   have hd1 : w4.cell? ⟨w.heap.size, 1, none⟩ = some (.string c0) := (hb4.cell (p := ⟨w.heap.size, 1, none⟩) (by simp)).trans hc1
   have hs4 := hb4.size
   have hbl4 := hbl.trans hb4
   clear hc0 hc1 hB hbl hb4
   go_wp2_with fail
   refine (type_any k0 c0 _ (by omega)).mono ?_
   rintro e w5 ⟨rfl, hb5⟩
   have hB5 := hB4.below hb5 (Nat.le_refl _)
   have hs5 := hb5.size
   have hbl5 := hbl4.trans (hb5.mono (by omega))
   clear hd0 hd1 hB4 hbl4 hb5
   go_wp2_with fail
   refine (bld_str _ _ _ _ _ hB5 ?_ ?_).mono ?_
   ·show _ + (typeT k0 c0).size ≤ _
    rw [Lib.size_eq]
    show _ + (typeL (k0, c0)).length ≤ _
    simp only [List.length_cons, List.length_append, List.length_nil]
    omega
   ·omega
   rintro e w6 ⟨rfl, hB6, hb6⟩
   have hs6 := hb6.size
   have hbl6 := hbl5.trans hb6
   clear hB5 hbl5 hb6
   go_wp2_with fail
   refine (bld_done _ _ _ _ hB6 (by omega)).mono ?_
   rintro e w7 ⟨rfl, hb7⟩
   go_wp2_with fail
   go_ret
   refine ⟨ret_str ?_, (((Below.refl w.heap.size w).alloc (Nat.le_refl _) _).trans ((hbl6.trans hb7).mono (by omega)))⟩
   rw [HK.out]
   show (⟨(_ : List UInt8).toArray⟩ : ByteArray) = bx (ofL ts (k0, c0))
   unfold bx ofL typeL
   simp
end Go.Proofs.YtijnimjmimeefaaGreat.D
