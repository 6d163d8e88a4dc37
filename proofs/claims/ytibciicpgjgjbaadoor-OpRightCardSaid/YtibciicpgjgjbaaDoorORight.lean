/- Right: what it answers. -/
import Derived.Test.YtibciicpgjgjbaaDoorOSame
import Derived.Test.YtibciicpgjgjbaaDoorORName
import Derived.Deep.RegionHeld3
namespace Go.Proofs.YtibciicpgjgjbaaDoor
open Go.RowKit

def parsesB (s : ByteArray) : Bool := (parseR s.data.toList).2.2
/-- whether what is used may be so -/
def withinB (x : Ins) : Bool :=
  if usesI x.1 = 2 then decide (x.2.2.2.1.size ≤ 1000) else if usesI x.1 = 3 then decide (0 ≤ x.2.2.1 ∧ x.2.2.1 ≤ 2000) else
  if usesI x.1 = 4 then nameB x.2.2.2.2.1 && nameB x.2.2.2.2.2.1 else if usesI x.1 = 5 then nameB x.2.2.2.2.1 && nameB x.2.2.2.2.2.1 && parsesB x.2.2.2.2.2.2 else
  if usesI x.1 = 6 then nameB x.2.2.2.2.1 else true
def rightI (x : Ins) : Bool := knownB x.1 && decide (x = usedI x) && withinB x

theorem parses_any (s : ByteArray) (w : World) (hg : Glob w) (hs : s.size ≤ 4294967280) :
    Calls Tryd.prog 28 #[.string s] w fun e w' => e = .returned (.bool (parsesB s)) ∧ Below w.heap.size w w' := by
  go_enter Tryd.func28, Tryd.ntmps28
  go_wp2_with fail
  refine (parse_any s w hg hs).mono ?_
  rintro e w1 ⟨v, ps, ⟨t0, t1⟩, ok, HP, rfl, ho, hb⟩
  have HV : Hid (parsesB s = ok) := Lib.hid (by unfold parsesB; rw [HP.out])
  have hs1 := hb.size
  rw [show tyv (t0, t1) = .agg #[.int .i64 t0, .string t1] from rfl]
  obtain ⟨pa, pc, hv, _⟩ := ho.rd
  subst hv
  clear ho HP
  go_wp2_with fail
  go_ret
  refine ⟨ret_bool HV.out.symm, ?_⟩
  repeat (first | exact Below.refl _ _ | exact hb | refine Below.setCell (p := ⟨_, _, _⟩) ?_ (by first | (simp; done) | (simp; omega) | omega) _ | refine below_drewN ?_ _ | refine Below.drew ?_ | refine Below.alloc ?_ (by first | (simp; done) | (simp; omega) | omega) _)

set_option maxHeartbeats 2000000 in
theorem within_any (o n k : Int) (s c m d : ByteArray) (w : World) (hg : Glob w) (hc : c.size ≤ maxLen) (hm : m.size ≤ maxLen) (hd : d.size ≤ 4294967280) :
    Calls Tryd.prog 23 #[insV (o, n, k, s, c, m, d)] w fun e w' => e = .returned (.bool (withinB (o, n, k, s, c, m, d))) ∧ Below w.heap.size w w' := by
  rw [insV_mk]
  have hg1 := hg.alloc (.cells #[.int .i64 o, .int .i32 n, .int .i64 k, .string s, .string c, .string m, .string d] 29)
  have hb0 : Below w.heap.size w (w.alloc (.cells #[.int .i64 o, .int .i32 n, .int .i64 k, .string s, .string c, .string m, .string d] 29)) := (Below.refl _ _).alloc (Nat.le_refl _) _
  go_enter Tryd.func23, Tryd.ntmps23
  go_wp2_with (first
    | (go_at_call 10; refine (uses_any _ _).mono ?_; rintro e w' ⟨rfl, rfl⟩)
    | (go_at_call 27; refine (name_any _ _ (by assumption)).mono ?_; rintro e w' ⟨rfl, rfl⟩)
    | (go_at_call 28; refine (parses_any _ _ hg1 hd).mono ?_; rintro e w' ⟨rfl, hb1⟩))
  all_goals go_ret
  all_goals refine ⟨ret_bool ?_, ?_⟩
  all_goals first | exact hb0 | exact hb0.trans (hb1.mono hb0.size) | skip
  all_goals (rw [Bool.eq_iff_iff]; simp_all [withinB]; try omega)

theorem ibox_next {w w' : World} {X : Nat} {o n k : Int} {s c m d : ByteArray} (h : w.cell? ⟨X, 0, none⟩ = some (.int .i64 o) ∧ w.cell? ⟨X, 1, none⟩ = some (.int .i32 n) ∧ w.cell? ⟨X, 2, none⟩ = some (.int .i64 k) ∧ w.cell? ⟨X, 3, none⟩ = some (.string s) ∧ w.cell? ⟨X, 4, none⟩ = some (.string c) ∧ w.cell? ⟨X, 5, none⟩ = some (.string m) ∧ w.cell? ⟨X, 6, none⟩ = some (.string d)) (hX : X < w.heap.size) (hb : Below w.heap.size w w') :
    w'.cell? ⟨X, 0, none⟩ = some (.int .i64 o) ∧ w'.cell? ⟨X, 1, none⟩ = some (.int .i32 n) ∧ w'.cell? ⟨X, 2, none⟩ = some (.int .i64 k) ∧ w'.cell? ⟨X, 3, none⟩ = some (.string s) ∧ w'.cell? ⟨X, 4, none⟩ = some (.string c) ∧ w'.cell? ⟨X, 5, none⟩ = some (.string m) ∧ w'.cell? ⟨X, 6, none⟩ = some (.string d) := by
  obtain ⟨h0, h1, h2, h3, h4, h5, h6⟩ := h
  exact ⟨(hb.cell (p := ⟨X, 0, none⟩) hX).trans h0, (hb.cell (p := ⟨X, 1, none⟩) hX).trans h1, (hb.cell (p := ⟨X, 2, none⟩) hX).trans h2, (hb.cell (p := ⟨X, 3, none⟩) hX).trans h3, (hb.cell (p := ⟨X, 4, none⟩) hX).trans h4, (hb.cell (p := ⟨X, 5, none⟩) hX).trans h5, (hb.cell (p := ⟨X, 6, none⟩) hX).trans h6⟩

theorem ibox_new (w : World) (o n k : Int) (s c m d : ByteArray) (w' : World) (hw : w' = (w.alloc (.cells #[.int .i64 o, .int .i32 n, .int .i64 k, .string s, .string c, .string m, .string d] 29)).drew) :
    w'.cell? ⟨w.heap.size, 0, none⟩ = some (.int .i64 o) ∧ w'.cell? ⟨w.heap.size, 1, none⟩ = some (.int .i32 n) ∧ w'.cell? ⟨w.heap.size, 2, none⟩ = some (.int .i64 k) ∧ w'.cell? ⟨w.heap.size, 3, none⟩ = some (.string s) ∧ w'.cell? ⟨w.heap.size, 4, none⟩ = some (.string c) ∧ w'.cell? ⟨w.heap.size, 5, none⟩ = some (.string m) ∧ w'.cell? ⟨w.heap.size, 6, none⟩ = some (.string d) := by
  subst hw
  refine ⟨?_, ?_, ?_, ?_, ?_, ?_, ?_⟩ <;> simp

theorem opName_pos {o : Int} (h : knownB o = true) : 0 < (opName o).size := by
  unfold knownB at h
  simp only [decide_eq_true_eq] at h
  obtain ⟨n, rfl⟩ : ∃ n : Nat, o = n := ⟨o.toNat, by omega⟩
  rw [opName_in (by omega) (by omega)]
  have all : ((List.range 44).all fun n => n == 0 || decide (0 < (tabL.getD n ⟨#[]⟩).size)) = true := by kernel_rfl
  have := List.all_eq_true.1 all n (List.mem_range.2 (by omega))
  simp only [Bool.or_eq_true, beq_iff_eq, decide_eq_true_eq] at this
  omega

theorem rparse_val (s : ByteArray) (w : World) (hs : s.size ≤ 4294967280) :
    Calls Tryd.prog 26 #[.string s] w fun e w' => ∃ pa pl pc t0 t1, e = .returned (.tuple #[.slice pa pl pc, .agg #[.int .i64 t0, .string t1], .bool (parsesB s)]) ∧ Below w.heap.size w w' := by
  refine (rparse_any s w hs).mono ?_
  rintro e w1 ⟨v, ps, ⟨t0, t1⟩, ok, HP, rfl, ho, hb⟩
  obtain ⟨pa, pc, hv, _⟩ := ho.rd
  refine ⟨pa, ps.length, pc, t0, t1, ?_, hb⟩
  rw [hv, show parsesB s = ok by unfold parsesB; rw [HP.out]]
  rfl

set_option maxHeartbeats 8000000 in
theorem right_any (o n k : Int) (s c m d : ByteArray) (w : World) (hg : Glob w) (hc : c.size ≤ maxLen) (hm : m.size ≤ maxLen) (hd : d.size ≤ 4294967280) :
    Calls Tryd.prog 18 #[insV (o, n, k, s, c, m, d)] w fun e w' => e = .returned (.bool (rightI (o, n, k, s, c, m, d))) ∧ Below w.heap.size w w' := by
  rw [insV_mk]
  obtain ⟨⟨o', n', k', s', c', m', d'⟩, HU⟩ : ∃ y, usedI (o, n, k, s, c, m, d) = y := ⟨_, rfl⟩
  obtain rfl : o = o' := congrArg Prod.fst HU
  have HUS : Hid (∀ w : World, Calls Tryd.prog 22 #[.agg #[.int .i64 o, .int .i32 n, .int .i64 k, .string s, .string c, .string m, .string d]] w fun e w' => e = .returned (.agg #[.int .i64 o, .int .i32 n', .int .i64 k', .string s', .string c', .string m', .string d']) ∧ Below w.heap.size w w') := Lib.hid (fun w => by
    have := used_any o n k s c m d w
    rw [HU, insV_mk, insV_mk] at this
    exact this)
  have HWI : Hid (∀ w : World, Glob w → Calls Tryd.prog 23 #[.agg #[.int .i64 o, .int .i32 n, .int .i64 k, .string s, .string c, .string m, .string d]] w fun e w' => e = .returned (.bool (withinB (o, n, k, s, c, m, d))) ∧ Below w.heap.size w w') := Lib.hid (fun w hg => by
    have := within_any o n k s c m d w hg hc hm hd
    rw [insV_mk] at this
    exact this)
  have HR : Hid (rightI (o, n, k, s, c, m, d) = (knownB o && decide ((o, n, k, s, c, m, d) = (o, n', k', s', c', m', d')) && withinB (o, n, k, s, c, m, d))) := Lib.hid (by unfold rightI; rw [HU])
  have hb0 : Below w.heap.size w (w.alloc (.cells #[.int .i64 o, .int .i32 n, .int .i64 k, .string s, .string c, .string m, .string d] 29)).drew := ((Below.refl _ _).alloc (Nat.le_refl _) _).drew
  have hx0 := ibox_new w o n k s c m d _ rfl
  have hX0 : w.heap.size < (w.alloc (.cells #[.int .i64 o, .int .i32 n, .int .i64 k, .string s, .string c, .string m, .string d] 29)).drew.heap.size := by simp
  clear HU
  cases hk : knownB o with
  | false =>
    have HF : Hid (rightI (o, n, k, s, c, m, d) = false) := Lib.hid (by rw [HR.out, hk]; rfl)
    clear HR
    go_enter Tryd.func18, Tryd.ntmps18
    go_wp2_with fail
    refine wp_region_held_drew (S := (fun w' => w'.cell? ⟨w.heap.size, 0, none⟩ = some (.int .i64 o) ∧ w'.cell? ⟨w.heap.size, 1, none⟩ = some (.int .i32 n) ∧ w'.cell? ⟨w.heap.size, 2, none⟩ = some (.int .i64 k) ∧ w'.cell? ⟨w.heap.size, 3, none⟩ = some (.string s) ∧ w'.cell? ⟨w.heap.size, 4, none⟩ = some (.string c) ∧ w'.cell? ⟨w.heap.size, 5, none⟩ = some (.string m) ∧ w'.cell? ⟨w.heap.size, 6, none⟩ = some (.string d))) (by kernel_rfl) hx0 (fun hHeld => ?_)
    refine wpAnyH_take (i := 0) (oi := _) (v := ?_) (by rfl) (by kernel_rfl) (by kernel_rfl) (by kernel_rfl) (by intro _ _ _ h; exact h) (Or.inl ⟨by rfl, fun W hSw => ?_⟩) hHeld ?_
    rotate_left 1
    · (clear hSw; first | (go_simp; done) | (go_simp; with_reducible rfl))
    try go_frame
    refine wpAnyH_take (i := 1) (oi := _) (v := ?_) (by simp only [List.getElem?_toArray, List.getElem?_cons_succ, List.getElem?_cons_zero]; rfl) (by kernel_rfl) (by kernel_rfl) (by kernel_rfl) (by intro _ _ _ h; exact h) (Or.inl ⟨by rfl, fun W hSw => ?_⟩) hHeld ?_
    rotate_left 1
    · (try dsimp only at hSw); first | (go_simp; done) | (go_simp; with_reducible rfl)
    try go_frame
    refine wpAnyH_ready (rs := [2]) (by kernel_rfl) (by simp) ?_
    refine AllReadyH.cons (o := _) (by simp only [List.getElem?_toArray, List.getElem?_cons_succ, List.getElem?_cons_zero]; rfl) (fun K hK => ?_) AllReadyH.nil
    clear hHeld
    go_simp
    refine (knownop_any _ _).mono ?_
    rintro e w' ⟨rfl, rfl⟩
    refine hK.out _ _ hx0 (fun hHeld => ?_)
    clear hK K
    try go_frame
    refine wpAnyH_take (i := 3) (oi := _) (v := ?_) (by simp only [List.getElem?_toArray, List.getElem?_cons_succ, List.getElem?_cons_zero]; rfl) (by kernel_rfl) (by kernel_rfl) (by kernel_rfl) (by intro _ _ _ h; exact h) (Or.inl ⟨by rfl, fun W hSw => ?_⟩) hHeld ?_
    rotate_left 1
    · (clear hSw; first | (go_simp; done) | (go_simp; with_reducible rfl))
    try go_frame
    refine wpAnyH_take (i := 4) (oi := _) (v := undef) (by simp only [List.getElem?_toArray, List.getElem?_cons_succ, List.getElem?_cons_zero]; rfl) (by kernel_rfl) (by kernel_rfl) (by kernel_rfl) (by intro _ _ _ h; exact h) (Or.inr ⟨by rfl, rfl⟩) hHeld ?_
    try go_frame
    refine wpAnyH_take (i := 5) (oi := _) (v := undef) (by simp only [List.getElem?_toArray, List.getElem?_cons_succ, List.getElem?_cons_zero]; rfl) (by kernel_rfl) (by kernel_rfl) (by kernel_rfl) (by intro _ _ _ h; exact h) (Or.inr ⟨by rfl, rfl⟩) hHeld ?_
    try go_frame
    refine wpAnyH_take (i := 6) (oi := _) (v := undef) (by simp only [List.getElem?_toArray, List.getElem?_cons_succ, List.getElem?_cons_zero]; rfl) (by kernel_rfl) (by kernel_rfl) (by kernel_rfl) (by intro _ _ _ h; exact h) (Or.inr ⟨by rfl, rfl⟩) hHeld ?_
    try go_frame
    refine wpAnyH_take (i := 7) (oi := _) (v := undef) (by simp only [List.getElem?_toArray, List.getElem?_cons_succ, List.getElem?_cons_zero]; rfl) (by kernel_rfl) (by kernel_rfl) (by kernel_rfl) (by intro _ _ _ h; exact h) (Or.inr ⟨by rfl, rfl⟩) hHeld ?_
    try go_frame
    refine wpAnyH_take (i := 8) (oi := _) (v := ?_) (by simp only [List.getElem?_toArray, List.getElem?_cons_succ, List.getElem?_cons_zero]; rfl) (by kernel_rfl) (by kernel_rfl) (by kernel_rfl) (by intro _ _ _ h; exact h) (Or.inl ⟨by rfl, fun W hSw => ?_⟩) hHeld ?_
    rotate_left 1
    · (clear hSw; first | (go_simp; done) | (go_simp; with_reducible rfl))
    try go_frame
    refine wpAnyH_take (i := 9) (oi := _) (v := ?_) (by simp only [List.getElem?_toArray, List.getElem?_cons_succ, List.getElem?_cons_zero]; rfl) (by kernel_rfl) (by kernel_rfl) (by kernel_rfl) (by intro _ _ _ h; exact h) (Or.inl ⟨by rfl, fun W hSw => ?_⟩) hHeld ?_
    rotate_left 1
    · (clear hSw; first | (go_simp; done) | (go_simp; with_reducible rfl))
    try go_frame
    refine wpAnyH_take (i := 10) (oi := _) (v := undef) (by simp only [List.getElem?_toArray, List.getElem?_cons_succ, List.getElem?_cons_zero]; rfl) (by kernel_rfl) (by kernel_rfl) (by kernel_rfl) (by intro _ _ _ h; exact h) (Or.inr ⟨by rfl, rfl⟩) hHeld ?_
    try go_frame
    refine wpAnyH_take (i := 11) (oi := _) (v := undef) (by simp only [List.getElem?_toArray, List.getElem?_cons_succ, List.getElem?_cons_zero]; rfl) (by kernel_rfl) (by kernel_rfl) (by kernel_rfl) (by intro _ _ _ h; exact h) (Or.inr ⟨by rfl, rfl⟩) hHeld ?_
    try go_frame
    refine wpAnyH_take (i := 12) (oi := _) (v := ?_) (by simp only [List.getElem?_toArray, List.getElem?_cons_succ, List.getElem?_cons_zero]; rfl) (by kernel_rfl) (by kernel_rfl) (by kernel_rfl) (by intro _ _ _ h; exact h) (Or.inl ⟨by rfl, fun W hSw => ?_⟩) hHeld ?_
    rotate_left 1
    · (clear hSw; first | (go_simp; done) | (go_simp; with_reducible rfl))
    try go_frame
    refine wpAnyH_take (i := 13) (oi := _) (v := ?_) (by simp only [List.getElem?_toArray, List.getElem?_cons_succ, List.getElem?_cons_zero]; rfl) (by kernel_rfl) (by kernel_rfl) (by kernel_rfl) (by intro _ _ _ h; exact h) (Or.inl ⟨by rfl, fun W hSw => ?_⟩) hHeld ?_
    rotate_left 1
    · (clear hSw; first | (go_simp; done) | (go_simp; with_reducible rfl))
    try go_frame
    refine wpAnyH_done (by kernel_rfl) ?_ _
    go_wp2_with fail
    go_ret
    exact ⟨ret_bool HF.out.symm, by first | exact hB2 | exact hB1 | exact hb0⟩
  | true =>
    by_cases en : n = n'
    · subst en
      by_cases ek : k = k'
      · subst ek
        by_cases es : s = s'
        · subst es
          by_cases ec : c = c'
          · subst ec
            by_cases em : m = m'
            · subst em
              by_cases ed : d = d'
              · subst ed
                have HF : Hid (rightI (o, n, k, s, c, m, d) = withinB (o, n, k, s, c, m, d)) := Lib.hid (by rw [HR.out, hk]; simp)
                clear HR
                go_enter Tryd.func18, Tryd.ntmps18
                go_wp2_with fail
                refine wp_region_held_drew (S := (fun w' => w'.cell? ⟨w.heap.size, 0, none⟩ = some (.int .i64 o) ∧ w'.cell? ⟨w.heap.size, 1, none⟩ = some (.int .i32 n) ∧ w'.cell? ⟨w.heap.size, 2, none⟩ = some (.int .i64 k) ∧ w'.cell? ⟨w.heap.size, 3, none⟩ = some (.string s) ∧ w'.cell? ⟨w.heap.size, 4, none⟩ = some (.string c) ∧ w'.cell? ⟨w.heap.size, 5, none⟩ = some (.string m) ∧ w'.cell? ⟨w.heap.size, 6, none⟩ = some (.string d))) (by kernel_rfl) hx0 (fun hHeld => ?_)
                refine wpAnyH_take (i := 0) (oi := _) (v := ?_) (by rfl) (by kernel_rfl) (by kernel_rfl) (by kernel_rfl) (by intro _ _ _ h; exact h) (Or.inl ⟨by rfl, fun W hSw => ?_⟩) hHeld ?_
                rotate_left 1
                · (clear hSw; first | (go_simp; done) | (go_simp; with_reducible rfl))
                try go_frame
                refine wpAnyH_take (i := 1) (oi := _) (v := ?_) (by simp only [List.getElem?_toArray, List.getElem?_cons_succ, List.getElem?_cons_zero]; rfl) (by kernel_rfl) (by kernel_rfl) (by kernel_rfl) (by intro _ _ _ h; exact h) (Or.inl ⟨by rfl, fun W hSw => ?_⟩) hHeld ?_
                rotate_left 1
                · (try dsimp only at hSw); first | (go_simp; done) | (go_simp; with_reducible rfl)
                try go_frame
                refine wpAnyH_ready (rs := [2]) (by kernel_rfl) (by simp) ?_
                refine AllReadyH.cons (o := _) (by simp only [List.getElem?_toArray, List.getElem?_cons_succ, List.getElem?_cons_zero]; rfl) (fun K hK => ?_) AllReadyH.nil
                clear hHeld
                go_simp
                refine (knownop_any _ _).mono ?_
                rintro e w' ⟨rfl, rfl⟩
                refine hK.out _ _ hx0 (fun hHeld => ?_)
                clear hK K
                try go_frame
                refine wpAnyH_take (i := 3) (oi := _) (v := ?_) (by simp only [List.getElem?_toArray, List.getElem?_cons_succ, List.getElem?_cons_zero]; rfl) (by kernel_rfl) (by kernel_rfl) (by kernel_rfl) (by intro _ _ _ h; exact h) (Or.inl ⟨by rfl, fun W hSw => ?_⟩) hHeld ?_
                rotate_left 1
                · (clear hSw; first | (go_simp; done) | (go_simp; with_reducible rfl))
                try go_frame
                refine wpAnyH_take (i := 4) (oi := _) (v := ?_) (by simp only [List.getElem?_toArray, List.getElem?_cons_succ, List.getElem?_cons_zero]; rfl) (by kernel_rfl) (by kernel_rfl) (by kernel_rfl) (by intro _ _ _ h; exact h) (Or.inl ⟨by rfl, fun W hSw => ?_⟩) hHeld ?_
                rotate_left 1
                · (try dsimp only at hSw); first | (go_simp; done) | (go_simp; with_reducible rfl)
                try go_frame
                refine wpAnyH_take (i := 5) (oi := _) (v := ?_) (by simp only [List.getElem?_toArray, List.getElem?_cons_succ, List.getElem?_cons_zero]; rfl) (by kernel_rfl) (by kernel_rfl) (by kernel_rfl) (by intro _ _ _ h; exact h) (Or.inl ⟨by rfl, fun W hSw => ?_⟩) hHeld ?_
                rotate_left 1
                · (try dsimp only at hSw); first | (go_simp; done) | (go_simp; with_reducible rfl)
                try go_frame
                refine wpAnyH_ready (rs := [6]) (by kernel_rfl) (by simp) ?_
                refine AllReadyH.cons (o := _) (by simp only [List.getElem?_toArray, List.getElem?_cons_succ, List.getElem?_cons_zero]; rfl) (fun K hK => ?_) AllReadyH.nil
                clear hHeld
                go_simp
                refine (HUS.out _).mono ?_
                rintro e w1 ⟨rfl, hb1⟩
                have hB1 : Below w.heap.size w w1 := hb0.trans (hb1.mono hb0.size)
                have hx1 := ibox_next hx0 hX0 hb1
                have hX1 := Nat.lt_of_lt_of_le hX0 hb1.size
                refine hK.out _ _ hx1 (fun hHeld => ?_)
                clear hK K
                try go_frame
                refine wpAnyH_take (i := 7) (oi := _) (v := ?_) (by simp only [List.getElem?_toArray, List.getElem?_cons_succ, List.getElem?_cons_zero]; rfl) (by kernel_rfl) (by kernel_rfl) (by kernel_rfl) (by intro _ _ _ h; exact h) (Or.inl ⟨by rfl, fun W hSw => ?_⟩) hHeld ?_
                rotate_left 1
                · (clear hSw; first | (go_simp; done) | (go_simp; with_reducible rfl))
                try go_frame
                refine wpAnyH_take (i := 8) (oi := _) (v := ?_) (by simp only [List.getElem?_toArray, List.getElem?_cons_succ, List.getElem?_cons_zero]; rfl) (by kernel_rfl) (by kernel_rfl) (by kernel_rfl) (by intro _ _ _ h; exact h) (Or.inl ⟨by rfl, fun W hSw => ?_⟩) hHeld ?_
                rotate_left 1
                · (clear hSw; first | (go_simp; done) | (go_simp; with_reducible rfl))
                try go_frame
                refine wpAnyH_take (i := 9) (oi := _) (v := ?_) (by simp only [List.getElem?_toArray, List.getElem?_cons_succ, List.getElem?_cons_zero]; rfl) (by kernel_rfl) (by kernel_rfl) (by kernel_rfl) (by intro _ _ _ h; exact h) (Or.inl ⟨by rfl, fun W hSw => ?_⟩) hHeld ?_
                rotate_left 1
                · (clear hSw; first | (go_simp; done) | (go_simp; with_reducible rfl))
                try go_frame
                refine wpAnyH_take (i := 10) (oi := _) (v := ?_) (by simp only [List.getElem?_toArray, List.getElem?_cons_succ, List.getElem?_cons_zero]; rfl) (by kernel_rfl) (by kernel_rfl) (by kernel_rfl) (by intro _ _ _ h; exact h) (Or.inl ⟨by rfl, fun W hSw => ?_⟩) hHeld ?_
                rotate_left 1
                · (try dsimp only at hSw); first | (go_simp; done) | (go_simp; with_reducible rfl)
                try go_frame
                refine wpAnyH_ready (rs := [11]) (by kernel_rfl) (by simp) ?_
                refine AllReadyH.cons (o := _) (by simp only [List.getElem?_toArray, List.getElem?_cons_succ, List.getElem?_cons_zero]; rfl) (fun K hK => ?_) AllReadyH.nil
                clear hHeld
                go_simp
                refine (HWI.out _ (hg.below hB1 (Nat.le_refl _))).mono ?_
                rintro e w2 ⟨rfl, hb2⟩
                have hB2 : Below w.heap.size w w2 := hB1.trans (hb2.mono hB1.size)
                have hx2 := ibox_next hx1 hX1 hb2
                refine hK.out _ _ hx2 (fun hHeld => ?_)
                clear hK K
                try go_frame
                refine wpAnyH_take (i := 12) (oi := _) (v := ?_) (by simp only [List.getElem?_toArray, List.getElem?_cons_succ, List.getElem?_cons_zero]; rfl) (by kernel_rfl) (by kernel_rfl) (by kernel_rfl) (by intro _ _ _ h; exact h) (Or.inl ⟨by rfl, fun W hSw => ?_⟩) hHeld ?_
                rotate_left 1
                · (clear hSw; first | (go_simp; done) | (go_simp; with_reducible rfl))
                try go_frame
                refine wpAnyH_take (i := 13) (oi := _) (v := ?_) (by simp only [List.getElem?_toArray, List.getElem?_cons_succ, List.getElem?_cons_zero]; rfl) (by kernel_rfl) (by kernel_rfl) (by kernel_rfl) (by intro _ _ _ h; exact h) (Or.inl ⟨by rfl, fun W hSw => ?_⟩) hHeld ?_
                rotate_left 1
                · (clear hSw; first | (go_simp; done) | (go_simp; with_reducible rfl))
                try go_frame
                refine wpAnyH_done (by kernel_rfl) ?_ _
                go_wp2_with fail
                go_ret
                exact ⟨ret_bool HF.out.symm, by first | exact hB2 | exact hB1 | exact hb0⟩
              · have f1 : ¬ d.toList = d'.toList := fun h => ed (str_ext h)
                have f2 : ¬ d'.toList = d.toList := fun h => ed (str_ext h.symm)
                have f3 : (d.toList == d'.toList) = false := by rw [beq_eq_false_iff_ne]; exact f1
                have f4 : (d'.toList == d.toList) = false := by rw [beq_eq_false_iff_ne]; exact f2
                have HF : Hid (rightI (o, n, k, s, c, m, d) = false) := Lib.hid (by rw [HR.out, hk, decide_eq_false (by intro e; simp only [Prod.mk.injEq] at e; exact ed (by simp_all))]; rfl)
                clear HR
                go_enter Tryd.func18, Tryd.ntmps18
                go_wp2_with fail
                refine wp_region_held_drew (S := (fun w' => w'.cell? ⟨w.heap.size, 0, none⟩ = some (.int .i64 o) ∧ w'.cell? ⟨w.heap.size, 1, none⟩ = some (.int .i32 n) ∧ w'.cell? ⟨w.heap.size, 2, none⟩ = some (.int .i64 k) ∧ w'.cell? ⟨w.heap.size, 3, none⟩ = some (.string s) ∧ w'.cell? ⟨w.heap.size, 4, none⟩ = some (.string c) ∧ w'.cell? ⟨w.heap.size, 5, none⟩ = some (.string m) ∧ w'.cell? ⟨w.heap.size, 6, none⟩ = some (.string d))) (by kernel_rfl) hx0 (fun hHeld => ?_)
                refine wpAnyH_take (i := 0) (oi := _) (v := ?_) (by rfl) (by kernel_rfl) (by kernel_rfl) (by kernel_rfl) (by intro _ _ _ h; exact h) (Or.inl ⟨by rfl, fun W hSw => ?_⟩) hHeld ?_
                rotate_left 1
                · (clear hSw; first | (go_simp; done) | (go_simp; with_reducible rfl))
                try go_frame
                refine wpAnyH_take (i := 1) (oi := _) (v := ?_) (by simp only [List.getElem?_toArray, List.getElem?_cons_succ, List.getElem?_cons_zero]; rfl) (by kernel_rfl) (by kernel_rfl) (by kernel_rfl) (by intro _ _ _ h; exact h) (Or.inl ⟨by rfl, fun W hSw => ?_⟩) hHeld ?_
                rotate_left 1
                · (try dsimp only at hSw); first | (go_simp; done) | (go_simp; with_reducible rfl)
                try go_frame
                refine wpAnyH_ready (rs := [2]) (by kernel_rfl) (by simp) ?_
                refine AllReadyH.cons (o := _) (by simp only [List.getElem?_toArray, List.getElem?_cons_succ, List.getElem?_cons_zero]; rfl) (fun K hK => ?_) AllReadyH.nil
                clear hHeld
                go_simp
                refine (knownop_any _ _).mono ?_
                rintro e w' ⟨rfl, rfl⟩
                refine hK.out _ _ hx0 (fun hHeld => ?_)
                clear hK K
                try go_frame
                refine wpAnyH_take (i := 3) (oi := _) (v := ?_) (by simp only [List.getElem?_toArray, List.getElem?_cons_succ, List.getElem?_cons_zero]; rfl) (by kernel_rfl) (by kernel_rfl) (by kernel_rfl) (by intro _ _ _ h; exact h) (Or.inl ⟨by rfl, fun W hSw => ?_⟩) hHeld ?_
                rotate_left 1
                · (clear hSw; first | (go_simp; done) | (go_simp; with_reducible rfl))
                try go_frame
                refine wpAnyH_take (i := 4) (oi := _) (v := ?_) (by simp only [List.getElem?_toArray, List.getElem?_cons_succ, List.getElem?_cons_zero]; rfl) (by kernel_rfl) (by kernel_rfl) (by kernel_rfl) (by intro _ _ _ h; exact h) (Or.inl ⟨by rfl, fun W hSw => ?_⟩) hHeld ?_
                rotate_left 1
                · (try dsimp only at hSw); first | (go_simp; done) | (go_simp; with_reducible rfl)
                try go_frame
                refine wpAnyH_take (i := 5) (oi := _) (v := ?_) (by simp only [List.getElem?_toArray, List.getElem?_cons_succ, List.getElem?_cons_zero]; rfl) (by kernel_rfl) (by kernel_rfl) (by kernel_rfl) (by intro _ _ _ h; exact h) (Or.inl ⟨by rfl, fun W hSw => ?_⟩) hHeld ?_
                rotate_left 1
                · (try dsimp only at hSw); first | (go_simp; done) | (go_simp; with_reducible rfl)
                try go_frame
                refine wpAnyH_ready (rs := [6]) (by kernel_rfl) (by simp) ?_
                refine AllReadyH.cons (o := _) (by simp only [List.getElem?_toArray, List.getElem?_cons_succ, List.getElem?_cons_zero]; rfl) (fun K hK => ?_) AllReadyH.nil
                clear hHeld
                go_simp
                refine (HUS.out _).mono ?_
                rintro e w1 ⟨rfl, hb1⟩
                have hB1 : Below w.heap.size w w1 := hb0.trans (hb1.mono hb0.size)
                have hx1 := ibox_next hx0 hX0 hb1
                have hX1 := Nat.lt_of_lt_of_le hX0 hb1.size
                refine hK.out _ _ hx1 (fun hHeld => ?_)
                clear hK K
                try go_frame
                refine wpAnyH_take (i := 7) (oi := _) (v := ?_) (by simp only [List.getElem?_toArray, List.getElem?_cons_succ, List.getElem?_cons_zero]; rfl) (by kernel_rfl) (by kernel_rfl) (by kernel_rfl) (by intro _ _ _ h; exact h) (Or.inl ⟨by rfl, fun W hSw => ?_⟩) hHeld ?_
                rotate_left 1
                · (clear hSw; first | (go_simp; done) | (go_simp; with_reducible rfl))
                try go_frame
                refine wpAnyH_take (i := 8) (oi := _) (v := ?_) (by simp only [List.getElem?_toArray, List.getElem?_cons_succ, List.getElem?_cons_zero]; rfl) (by kernel_rfl) (by kernel_rfl) (by kernel_rfl) (by intro _ _ _ h; exact h) (Or.inl ⟨by rfl, fun W hSw => ?_⟩) hHeld ?_
                rotate_left 1
                · (clear hSw; first | (go_simp; done) | (go_simp; with_reducible rfl))
                try go_frame
                refine wpAnyH_take (i := 9) (oi := _) (v := ?_) (by simp only [List.getElem?_toArray, List.getElem?_cons_succ, List.getElem?_cons_zero]; rfl) (by kernel_rfl) (by kernel_rfl) (by kernel_rfl) (by intro _ _ _ h; exact h) (Or.inl ⟨by rfl, fun W hSw => ?_⟩) hHeld ?_
                rotate_left 1
                · (clear hSw; first | (go_simp; done) | (go_simp; with_reducible rfl))
                try go_frame
                refine wpAnyH_take (i := 10) (oi := _) (v := undef) (by simp only [List.getElem?_toArray, List.getElem?_cons_succ, List.getElem?_cons_zero]; rfl) (by kernel_rfl) (by kernel_rfl) (by kernel_rfl) (by intro _ _ _ h; exact h) (Or.inr ⟨by rfl, rfl⟩) hHeld ?_
                try go_frame
                refine wpAnyH_take (i := 11) (oi := _) (v := undef) (by simp only [List.getElem?_toArray, List.getElem?_cons_succ, List.getElem?_cons_zero]; rfl) (by kernel_rfl) (by kernel_rfl) (by kernel_rfl) (by intro _ _ _ h; exact h) (Or.inr ⟨by rfl, rfl⟩) hHeld ?_
                try go_frame
                refine wpAnyH_take (i := 12) (oi := _) (v := ?_) (by simp only [List.getElem?_toArray, List.getElem?_cons_succ, List.getElem?_cons_zero]; rfl) (by kernel_rfl) (by kernel_rfl) (by kernel_rfl) (by intro _ _ _ h; exact h) (Or.inl ⟨by rfl, fun W hSw => ?_⟩) hHeld ?_
                rotate_left 1
                · (clear hSw; first | (go_simp; done) | (go_simp; with_reducible rfl))
                try go_frame
                refine wpAnyH_take (i := 13) (oi := _) (v := ?_) (by simp only [List.getElem?_toArray, List.getElem?_cons_succ, List.getElem?_cons_zero]; rfl) (by kernel_rfl) (by kernel_rfl) (by kernel_rfl) (by intro _ _ _ h; exact h) (Or.inl ⟨by rfl, fun W hSw => ?_⟩) hHeld ?_
                rotate_left 1
                · (clear hSw; first | (go_simp; done) | (go_simp; with_reducible rfl))
                try go_frame
                refine wpAnyH_done (by kernel_rfl) ?_ _
                go_wp2_with fail
                go_ret
                exact ⟨ret_bool HF.out.symm, by first | exact hB2 | exact hB1 | exact hb0⟩
            · have f1 : ¬ m.toList = m'.toList := fun h => em (str_ext h)
              have f2 : ¬ m'.toList = m.toList := fun h => em (str_ext h.symm)
              have f3 : (m.toList == m'.toList) = false := by rw [beq_eq_false_iff_ne]; exact f1
              have f4 : (m'.toList == m.toList) = false := by rw [beq_eq_false_iff_ne]; exact f2
              have HF : Hid (rightI (o, n, k, s, c, m, d) = false) := Lib.hid (by rw [HR.out, hk, decide_eq_false (by intro e; simp only [Prod.mk.injEq] at e; exact em (by simp_all))]; rfl)
              clear HR
              go_enter Tryd.func18, Tryd.ntmps18
              go_wp2_with fail
              refine wp_region_held_drew (S := (fun w' => w'.cell? ⟨w.heap.size, 0, none⟩ = some (.int .i64 o) ∧ w'.cell? ⟨w.heap.size, 1, none⟩ = some (.int .i32 n) ∧ w'.cell? ⟨w.heap.size, 2, none⟩ = some (.int .i64 k) ∧ w'.cell? ⟨w.heap.size, 3, none⟩ = some (.string s) ∧ w'.cell? ⟨w.heap.size, 4, none⟩ = some (.string c) ∧ w'.cell? ⟨w.heap.size, 5, none⟩ = some (.string m) ∧ w'.cell? ⟨w.heap.size, 6, none⟩ = some (.string d))) (by kernel_rfl) hx0 (fun hHeld => ?_)
              refine wpAnyH_take (i := 0) (oi := _) (v := ?_) (by rfl) (by kernel_rfl) (by kernel_rfl) (by kernel_rfl) (by intro _ _ _ h; exact h) (Or.inl ⟨by rfl, fun W hSw => ?_⟩) hHeld ?_
              rotate_left 1
              · (clear hSw; first | (go_simp; done) | (go_simp; with_reducible rfl))
              try go_frame
              refine wpAnyH_take (i := 1) (oi := _) (v := ?_) (by simp only [List.getElem?_toArray, List.getElem?_cons_succ, List.getElem?_cons_zero]; rfl) (by kernel_rfl) (by kernel_rfl) (by kernel_rfl) (by intro _ _ _ h; exact h) (Or.inl ⟨by rfl, fun W hSw => ?_⟩) hHeld ?_
              rotate_left 1
              · (try dsimp only at hSw); first | (go_simp; done) | (go_simp; with_reducible rfl)
              try go_frame
              refine wpAnyH_ready (rs := [2]) (by kernel_rfl) (by simp) ?_
              refine AllReadyH.cons (o := _) (by simp only [List.getElem?_toArray, List.getElem?_cons_succ, List.getElem?_cons_zero]; rfl) (fun K hK => ?_) AllReadyH.nil
              clear hHeld
              go_simp
              refine (knownop_any _ _).mono ?_
              rintro e w' ⟨rfl, rfl⟩
              refine hK.out _ _ hx0 (fun hHeld => ?_)
              clear hK K
              try go_frame
              refine wpAnyH_take (i := 3) (oi := _) (v := ?_) (by simp only [List.getElem?_toArray, List.getElem?_cons_succ, List.getElem?_cons_zero]; rfl) (by kernel_rfl) (by kernel_rfl) (by kernel_rfl) (by intro _ _ _ h; exact h) (Or.inl ⟨by rfl, fun W hSw => ?_⟩) hHeld ?_
              rotate_left 1
              · (clear hSw; first | (go_simp; done) | (go_simp; with_reducible rfl))
              try go_frame
              refine wpAnyH_take (i := 4) (oi := _) (v := ?_) (by simp only [List.getElem?_toArray, List.getElem?_cons_succ, List.getElem?_cons_zero]; rfl) (by kernel_rfl) (by kernel_rfl) (by kernel_rfl) (by intro _ _ _ h; exact h) (Or.inl ⟨by rfl, fun W hSw => ?_⟩) hHeld ?_
              rotate_left 1
              · (try dsimp only at hSw); first | (go_simp; done) | (go_simp; with_reducible rfl)
              try go_frame
              refine wpAnyH_take (i := 5) (oi := _) (v := ?_) (by simp only [List.getElem?_toArray, List.getElem?_cons_succ, List.getElem?_cons_zero]; rfl) (by kernel_rfl) (by kernel_rfl) (by kernel_rfl) (by intro _ _ _ h; exact h) (Or.inl ⟨by rfl, fun W hSw => ?_⟩) hHeld ?_
              rotate_left 1
              · (try dsimp only at hSw); first | (go_simp; done) | (go_simp; with_reducible rfl)
              try go_frame
              refine wpAnyH_ready (rs := [6]) (by kernel_rfl) (by simp) ?_
              refine AllReadyH.cons (o := _) (by simp only [List.getElem?_toArray, List.getElem?_cons_succ, List.getElem?_cons_zero]; rfl) (fun K hK => ?_) AllReadyH.nil
              clear hHeld
              go_simp
              refine (HUS.out _).mono ?_
              rintro e w1 ⟨rfl, hb1⟩
              have hB1 : Below w.heap.size w w1 := hb0.trans (hb1.mono hb0.size)
              have hx1 := ibox_next hx0 hX0 hb1
              have hX1 := Nat.lt_of_lt_of_le hX0 hb1.size
              refine hK.out _ _ hx1 (fun hHeld => ?_)
              clear hK K
              try go_frame
              refine wpAnyH_take (i := 7) (oi := _) (v := ?_) (by simp only [List.getElem?_toArray, List.getElem?_cons_succ, List.getElem?_cons_zero]; rfl) (by kernel_rfl) (by kernel_rfl) (by kernel_rfl) (by intro _ _ _ h; exact h) (Or.inl ⟨by rfl, fun W hSw => ?_⟩) hHeld ?_
              rotate_left 1
              · (clear hSw; first | (go_simp; done) | (go_simp; with_reducible rfl))
              try go_frame
              refine wpAnyH_take (i := 8) (oi := _) (v := ?_) (by simp only [List.getElem?_toArray, List.getElem?_cons_succ, List.getElem?_cons_zero]; rfl) (by kernel_rfl) (by kernel_rfl) (by kernel_rfl) (by intro _ _ _ h; exact h) (Or.inl ⟨by rfl, fun W hSw => ?_⟩) hHeld ?_
              rotate_left 1
              · (clear hSw; first | (go_simp; done) | (go_simp; with_reducible rfl))
              try go_frame
              refine wpAnyH_take (i := 9) (oi := _) (v := ?_) (by simp only [List.getElem?_toArray, List.getElem?_cons_succ, List.getElem?_cons_zero]; rfl) (by kernel_rfl) (by kernel_rfl) (by kernel_rfl) (by intro _ _ _ h; exact h) (Or.inl ⟨by rfl, fun W hSw => ?_⟩) hHeld ?_
              rotate_left 1
              · (clear hSw; first | (go_simp; done) | (go_simp; with_reducible rfl))
              try go_frame
              refine wpAnyH_take (i := 10) (oi := _) (v := undef) (by simp only [List.getElem?_toArray, List.getElem?_cons_succ, List.getElem?_cons_zero]; rfl) (by kernel_rfl) (by kernel_rfl) (by kernel_rfl) (by intro _ _ _ h; exact h) (Or.inr ⟨by rfl, rfl⟩) hHeld ?_
              try go_frame
              refine wpAnyH_take (i := 11) (oi := _) (v := undef) (by simp only [List.getElem?_toArray, List.getElem?_cons_succ, List.getElem?_cons_zero]; rfl) (by kernel_rfl) (by kernel_rfl) (by kernel_rfl) (by intro _ _ _ h; exact h) (Or.inr ⟨by rfl, rfl⟩) hHeld ?_
              try go_frame
              refine wpAnyH_take (i := 12) (oi := _) (v := ?_) (by simp only [List.getElem?_toArray, List.getElem?_cons_succ, List.getElem?_cons_zero]; rfl) (by kernel_rfl) (by kernel_rfl) (by kernel_rfl) (by intro _ _ _ h; exact h) (Or.inl ⟨by rfl, fun W hSw => ?_⟩) hHeld ?_
              rotate_left 1
              · (clear hSw; first | (go_simp; done) | (go_simp; with_reducible rfl))
              try go_frame
              refine wpAnyH_take (i := 13) (oi := _) (v := ?_) (by simp only [List.getElem?_toArray, List.getElem?_cons_succ, List.getElem?_cons_zero]; rfl) (by kernel_rfl) (by kernel_rfl) (by kernel_rfl) (by intro _ _ _ h; exact h) (Or.inl ⟨by rfl, fun W hSw => ?_⟩) hHeld ?_
              rotate_left 1
              · (clear hSw; first | (go_simp; done) | (go_simp; with_reducible rfl))
              try go_frame
              refine wpAnyH_done (by kernel_rfl) ?_ _
              go_wp2_with fail
              go_ret
              exact ⟨ret_bool HF.out.symm, by first | exact hB2 | exact hB1 | exact hb0⟩
          · have f1 : ¬ c.toList = c'.toList := fun h => ec (str_ext h)
            have f2 : ¬ c'.toList = c.toList := fun h => ec (str_ext h.symm)
            have f3 : (c.toList == c'.toList) = false := by rw [beq_eq_false_iff_ne]; exact f1
            have f4 : (c'.toList == c.toList) = false := by rw [beq_eq_false_iff_ne]; exact f2
            have HF : Hid (rightI (o, n, k, s, c, m, d) = false) := Lib.hid (by rw [HR.out, hk, decide_eq_false (by intro e; simp only [Prod.mk.injEq] at e; exact ec (by simp_all))]; rfl)
            clear HR
            go_enter Tryd.func18, Tryd.ntmps18
            go_wp2_with fail
            refine wp_region_held_drew (S := (fun w' => w'.cell? ⟨w.heap.size, 0, none⟩ = some (.int .i64 o) ∧ w'.cell? ⟨w.heap.size, 1, none⟩ = some (.int .i32 n) ∧ w'.cell? ⟨w.heap.size, 2, none⟩ = some (.int .i64 k) ∧ w'.cell? ⟨w.heap.size, 3, none⟩ = some (.string s) ∧ w'.cell? ⟨w.heap.size, 4, none⟩ = some (.string c) ∧ w'.cell? ⟨w.heap.size, 5, none⟩ = some (.string m) ∧ w'.cell? ⟨w.heap.size, 6, none⟩ = some (.string d))) (by kernel_rfl) hx0 (fun hHeld => ?_)
            refine wpAnyH_take (i := 0) (oi := _) (v := ?_) (by rfl) (by kernel_rfl) (by kernel_rfl) (by kernel_rfl) (by intro _ _ _ h; exact h) (Or.inl ⟨by rfl, fun W hSw => ?_⟩) hHeld ?_
            rotate_left 1
            · (clear hSw; first | (go_simp; done) | (go_simp; with_reducible rfl))
            try go_frame
            refine wpAnyH_take (i := 1) (oi := _) (v := ?_) (by simp only [List.getElem?_toArray, List.getElem?_cons_succ, List.getElem?_cons_zero]; rfl) (by kernel_rfl) (by kernel_rfl) (by kernel_rfl) (by intro _ _ _ h; exact h) (Or.inl ⟨by rfl, fun W hSw => ?_⟩) hHeld ?_
            rotate_left 1
            · (try dsimp only at hSw); first | (go_simp; done) | (go_simp; with_reducible rfl)
            try go_frame
            refine wpAnyH_ready (rs := [2]) (by kernel_rfl) (by simp) ?_
            refine AllReadyH.cons (o := _) (by simp only [List.getElem?_toArray, List.getElem?_cons_succ, List.getElem?_cons_zero]; rfl) (fun K hK => ?_) AllReadyH.nil
            clear hHeld
            go_simp
            refine (knownop_any _ _).mono ?_
            rintro e w' ⟨rfl, rfl⟩
            refine hK.out _ _ hx0 (fun hHeld => ?_)
            clear hK K
            try go_frame
            refine wpAnyH_take (i := 3) (oi := _) (v := ?_) (by simp only [List.getElem?_toArray, List.getElem?_cons_succ, List.getElem?_cons_zero]; rfl) (by kernel_rfl) (by kernel_rfl) (by kernel_rfl) (by intro _ _ _ h; exact h) (Or.inl ⟨by rfl, fun W hSw => ?_⟩) hHeld ?_
            rotate_left 1
            · (clear hSw; first | (go_simp; done) | (go_simp; with_reducible rfl))
            try go_frame
            refine wpAnyH_take (i := 4) (oi := _) (v := ?_) (by simp only [List.getElem?_toArray, List.getElem?_cons_succ, List.getElem?_cons_zero]; rfl) (by kernel_rfl) (by kernel_rfl) (by kernel_rfl) (by intro _ _ _ h; exact h) (Or.inl ⟨by rfl, fun W hSw => ?_⟩) hHeld ?_
            rotate_left 1
            · (try dsimp only at hSw); first | (go_simp; done) | (go_simp; with_reducible rfl)
            try go_frame
            refine wpAnyH_take (i := 5) (oi := _) (v := ?_) (by simp only [List.getElem?_toArray, List.getElem?_cons_succ, List.getElem?_cons_zero]; rfl) (by kernel_rfl) (by kernel_rfl) (by kernel_rfl) (by intro _ _ _ h; exact h) (Or.inl ⟨by rfl, fun W hSw => ?_⟩) hHeld ?_
            rotate_left 1
            · (try dsimp only at hSw); first | (go_simp; done) | (go_simp; with_reducible rfl)
            try go_frame
            refine wpAnyH_ready (rs := [6]) (by kernel_rfl) (by simp) ?_
            refine AllReadyH.cons (o := _) (by simp only [List.getElem?_toArray, List.getElem?_cons_succ, List.getElem?_cons_zero]; rfl) (fun K hK => ?_) AllReadyH.nil
            clear hHeld
            go_simp
            refine (HUS.out _).mono ?_
            rintro e w1 ⟨rfl, hb1⟩
            have hB1 : Below w.heap.size w w1 := hb0.trans (hb1.mono hb0.size)
            have hx1 := ibox_next hx0 hX0 hb1
            have hX1 := Nat.lt_of_lt_of_le hX0 hb1.size
            refine hK.out _ _ hx1 (fun hHeld => ?_)
            clear hK K
            try go_frame
            refine wpAnyH_take (i := 7) (oi := _) (v := ?_) (by simp only [List.getElem?_toArray, List.getElem?_cons_succ, List.getElem?_cons_zero]; rfl) (by kernel_rfl) (by kernel_rfl) (by kernel_rfl) (by intro _ _ _ h; exact h) (Or.inl ⟨by rfl, fun W hSw => ?_⟩) hHeld ?_
            rotate_left 1
            · (clear hSw; first | (go_simp; done) | (go_simp; with_reducible rfl))
            try go_frame
            refine wpAnyH_take (i := 8) (oi := _) (v := ?_) (by simp only [List.getElem?_toArray, List.getElem?_cons_succ, List.getElem?_cons_zero]; rfl) (by kernel_rfl) (by kernel_rfl) (by kernel_rfl) (by intro _ _ _ h; exact h) (Or.inl ⟨by rfl, fun W hSw => ?_⟩) hHeld ?_
            rotate_left 1
            · (clear hSw; first | (go_simp; done) | (go_simp; with_reducible rfl))
            try go_frame
            refine wpAnyH_take (i := 9) (oi := _) (v := ?_) (by simp only [List.getElem?_toArray, List.getElem?_cons_succ, List.getElem?_cons_zero]; rfl) (by kernel_rfl) (by kernel_rfl) (by kernel_rfl) (by intro _ _ _ h; exact h) (Or.inl ⟨by rfl, fun W hSw => ?_⟩) hHeld ?_
            rotate_left 1
            · (clear hSw; first | (go_simp; done) | (go_simp; with_reducible rfl))
            try go_frame
            refine wpAnyH_take (i := 10) (oi := _) (v := undef) (by simp only [List.getElem?_toArray, List.getElem?_cons_succ, List.getElem?_cons_zero]; rfl) (by kernel_rfl) (by kernel_rfl) (by kernel_rfl) (by intro _ _ _ h; exact h) (Or.inr ⟨by rfl, rfl⟩) hHeld ?_
            try go_frame
            refine wpAnyH_take (i := 11) (oi := _) (v := undef) (by simp only [List.getElem?_toArray, List.getElem?_cons_succ, List.getElem?_cons_zero]; rfl) (by kernel_rfl) (by kernel_rfl) (by kernel_rfl) (by intro _ _ _ h; exact h) (Or.inr ⟨by rfl, rfl⟩) hHeld ?_
            try go_frame
            refine wpAnyH_take (i := 12) (oi := _) (v := ?_) (by simp only [List.getElem?_toArray, List.getElem?_cons_succ, List.getElem?_cons_zero]; rfl) (by kernel_rfl) (by kernel_rfl) (by kernel_rfl) (by intro _ _ _ h; exact h) (Or.inl ⟨by rfl, fun W hSw => ?_⟩) hHeld ?_
            rotate_left 1
            · (clear hSw; first | (go_simp; done) | (go_simp; with_reducible rfl))
            try go_frame
            refine wpAnyH_take (i := 13) (oi := _) (v := ?_) (by simp only [List.getElem?_toArray, List.getElem?_cons_succ, List.getElem?_cons_zero]; rfl) (by kernel_rfl) (by kernel_rfl) (by kernel_rfl) (by intro _ _ _ h; exact h) (Or.inl ⟨by rfl, fun W hSw => ?_⟩) hHeld ?_
            rotate_left 1
            · (clear hSw; first | (go_simp; done) | (go_simp; with_reducible rfl))
            try go_frame
            refine wpAnyH_done (by kernel_rfl) ?_ _
            go_wp2_with fail
            go_ret
            exact ⟨ret_bool HF.out.symm, by first | exact hB2 | exact hB1 | exact hb0⟩
        · have f1 : ¬ s.toList = s'.toList := fun h => es (str_ext h)
          have f2 : ¬ s'.toList = s.toList := fun h => es (str_ext h.symm)
          have f3 : (s.toList == s'.toList) = false := by rw [beq_eq_false_iff_ne]; exact f1
          have f4 : (s'.toList == s.toList) = false := by rw [beq_eq_false_iff_ne]; exact f2
          have HF : Hid (rightI (o, n, k, s, c, m, d) = false) := Lib.hid (by rw [HR.out, hk, decide_eq_false (by intro e; simp only [Prod.mk.injEq] at e; exact es (by simp_all))]; rfl)
          clear HR
          go_enter Tryd.func18, Tryd.ntmps18
          go_wp2_with fail
          refine wp_region_held_drew (S := (fun w' => w'.cell? ⟨w.heap.size, 0, none⟩ = some (.int .i64 o) ∧ w'.cell? ⟨w.heap.size, 1, none⟩ = some (.int .i32 n) ∧ w'.cell? ⟨w.heap.size, 2, none⟩ = some (.int .i64 k) ∧ w'.cell? ⟨w.heap.size, 3, none⟩ = some (.string s) ∧ w'.cell? ⟨w.heap.size, 4, none⟩ = some (.string c) ∧ w'.cell? ⟨w.heap.size, 5, none⟩ = some (.string m) ∧ w'.cell? ⟨w.heap.size, 6, none⟩ = some (.string d))) (by kernel_rfl) hx0 (fun hHeld => ?_)
          refine wpAnyH_take (i := 0) (oi := _) (v := ?_) (by rfl) (by kernel_rfl) (by kernel_rfl) (by kernel_rfl) (by intro _ _ _ h; exact h) (Or.inl ⟨by rfl, fun W hSw => ?_⟩) hHeld ?_
          rotate_left 1
          · (clear hSw; first | (go_simp; done) | (go_simp; with_reducible rfl))
          try go_frame
          refine wpAnyH_take (i := 1) (oi := _) (v := ?_) (by simp only [List.getElem?_toArray, List.getElem?_cons_succ, List.getElem?_cons_zero]; rfl) (by kernel_rfl) (by kernel_rfl) (by kernel_rfl) (by intro _ _ _ h; exact h) (Or.inl ⟨by rfl, fun W hSw => ?_⟩) hHeld ?_
          rotate_left 1
          · (try dsimp only at hSw); first | (go_simp; done) | (go_simp; with_reducible rfl)
          try go_frame
          refine wpAnyH_ready (rs := [2]) (by kernel_rfl) (by simp) ?_
          refine AllReadyH.cons (o := _) (by simp only [List.getElem?_toArray, List.getElem?_cons_succ, List.getElem?_cons_zero]; rfl) (fun K hK => ?_) AllReadyH.nil
          clear hHeld
          go_simp
          refine (knownop_any _ _).mono ?_
          rintro e w' ⟨rfl, rfl⟩
          refine hK.out _ _ hx0 (fun hHeld => ?_)
          clear hK K
          try go_frame
          refine wpAnyH_take (i := 3) (oi := _) (v := ?_) (by simp only [List.getElem?_toArray, List.getElem?_cons_succ, List.getElem?_cons_zero]; rfl) (by kernel_rfl) (by kernel_rfl) (by kernel_rfl) (by intro _ _ _ h; exact h) (Or.inl ⟨by rfl, fun W hSw => ?_⟩) hHeld ?_
          rotate_left 1
          · (clear hSw; first | (go_simp; done) | (go_simp; with_reducible rfl))
          try go_frame
          refine wpAnyH_take (i := 4) (oi := _) (v := ?_) (by simp only [List.getElem?_toArray, List.getElem?_cons_succ, List.getElem?_cons_zero]; rfl) (by kernel_rfl) (by kernel_rfl) (by kernel_rfl) (by intro _ _ _ h; exact h) (Or.inl ⟨by rfl, fun W hSw => ?_⟩) hHeld ?_
          rotate_left 1
          · (try dsimp only at hSw); first | (go_simp; done) | (go_simp; with_reducible rfl)
          try go_frame
          refine wpAnyH_take (i := 5) (oi := _) (v := ?_) (by simp only [List.getElem?_toArray, List.getElem?_cons_succ, List.getElem?_cons_zero]; rfl) (by kernel_rfl) (by kernel_rfl) (by kernel_rfl) (by intro _ _ _ h; exact h) (Or.inl ⟨by rfl, fun W hSw => ?_⟩) hHeld ?_
          rotate_left 1
          · (try dsimp only at hSw); first | (go_simp; done) | (go_simp; with_reducible rfl)
          try go_frame
          refine wpAnyH_ready (rs := [6]) (by kernel_rfl) (by simp) ?_
          refine AllReadyH.cons (o := _) (by simp only [List.getElem?_toArray, List.getElem?_cons_succ, List.getElem?_cons_zero]; rfl) (fun K hK => ?_) AllReadyH.nil
          clear hHeld
          go_simp
          refine (HUS.out _).mono ?_
          rintro e w1 ⟨rfl, hb1⟩
          have hB1 : Below w.heap.size w w1 := hb0.trans (hb1.mono hb0.size)
          have hx1 := ibox_next hx0 hX0 hb1
          have hX1 := Nat.lt_of_lt_of_le hX0 hb1.size
          refine hK.out _ _ hx1 (fun hHeld => ?_)
          clear hK K
          try go_frame
          refine wpAnyH_take (i := 7) (oi := _) (v := ?_) (by simp only [List.getElem?_toArray, List.getElem?_cons_succ, List.getElem?_cons_zero]; rfl) (by kernel_rfl) (by kernel_rfl) (by kernel_rfl) (by intro _ _ _ h; exact h) (Or.inl ⟨by rfl, fun W hSw => ?_⟩) hHeld ?_
          rotate_left 1
          · (clear hSw; first | (go_simp; done) | (go_simp; with_reducible rfl))
          try go_frame
          refine wpAnyH_take (i := 8) (oi := _) (v := ?_) (by simp only [List.getElem?_toArray, List.getElem?_cons_succ, List.getElem?_cons_zero]; rfl) (by kernel_rfl) (by kernel_rfl) (by kernel_rfl) (by intro _ _ _ h; exact h) (Or.inl ⟨by rfl, fun W hSw => ?_⟩) hHeld ?_
          rotate_left 1
          · (clear hSw; first | (go_simp; done) | (go_simp; with_reducible rfl))
          try go_frame
          refine wpAnyH_take (i := 9) (oi := _) (v := ?_) (by simp only [List.getElem?_toArray, List.getElem?_cons_succ, List.getElem?_cons_zero]; rfl) (by kernel_rfl) (by kernel_rfl) (by kernel_rfl) (by intro _ _ _ h; exact h) (Or.inl ⟨by rfl, fun W hSw => ?_⟩) hHeld ?_
          rotate_left 1
          · (clear hSw; first | (go_simp; done) | (go_simp; with_reducible rfl))
          try go_frame
          refine wpAnyH_take (i := 10) (oi := _) (v := undef) (by simp only [List.getElem?_toArray, List.getElem?_cons_succ, List.getElem?_cons_zero]; rfl) (by kernel_rfl) (by kernel_rfl) (by kernel_rfl) (by intro _ _ _ h; exact h) (Or.inr ⟨by rfl, rfl⟩) hHeld ?_
          try go_frame
          refine wpAnyH_take (i := 11) (oi := _) (v := undef) (by simp only [List.getElem?_toArray, List.getElem?_cons_succ, List.getElem?_cons_zero]; rfl) (by kernel_rfl) (by kernel_rfl) (by kernel_rfl) (by intro _ _ _ h; exact h) (Or.inr ⟨by rfl, rfl⟩) hHeld ?_
          try go_frame
          refine wpAnyH_take (i := 12) (oi := _) (v := ?_) (by simp only [List.getElem?_toArray, List.getElem?_cons_succ, List.getElem?_cons_zero]; rfl) (by kernel_rfl) (by kernel_rfl) (by kernel_rfl) (by intro _ _ _ h; exact h) (Or.inl ⟨by rfl, fun W hSw => ?_⟩) hHeld ?_
          rotate_left 1
          · (clear hSw; first | (go_simp; done) | (go_simp; with_reducible rfl))
          try go_frame
          refine wpAnyH_take (i := 13) (oi := _) (v := ?_) (by simp only [List.getElem?_toArray, List.getElem?_cons_succ, List.getElem?_cons_zero]; rfl) (by kernel_rfl) (by kernel_rfl) (by kernel_rfl) (by intro _ _ _ h; exact h) (Or.inl ⟨by rfl, fun W hSw => ?_⟩) hHeld ?_
          rotate_left 1
          · (clear hSw; first | (go_simp; done) | (go_simp; with_reducible rfl))
          try go_frame
          refine wpAnyH_done (by kernel_rfl) ?_ _
          go_wp2_with fail
          go_ret
          exact ⟨ret_bool HF.out.symm, by first | exact hB2 | exact hB1 | exact hb0⟩
      · have f1 : ¬ k = k' := ek
        have f2 : ¬ k' = k := fun h => ek h.symm
        have f3 : (k == k') = false := by rw [beq_eq_false_iff_ne]; exact f1
        have f4 : (k' == k) = false := by rw [beq_eq_false_iff_ne]; exact f2
        have HF : Hid (rightI (o, n, k, s, c, m, d) = false) := Lib.hid (by rw [HR.out, hk, decide_eq_false (by intro e; simp only [Prod.mk.injEq] at e; exact ek (by simp_all))]; rfl)
        clear HR
        go_enter Tryd.func18, Tryd.ntmps18
        go_wp2_with fail
        refine wp_region_held_drew (S := (fun w' => w'.cell? ⟨w.heap.size, 0, none⟩ = some (.int .i64 o) ∧ w'.cell? ⟨w.heap.size, 1, none⟩ = some (.int .i32 n) ∧ w'.cell? ⟨w.heap.size, 2, none⟩ = some (.int .i64 k) ∧ w'.cell? ⟨w.heap.size, 3, none⟩ = some (.string s) ∧ w'.cell? ⟨w.heap.size, 4, none⟩ = some (.string c) ∧ w'.cell? ⟨w.heap.size, 5, none⟩ = some (.string m) ∧ w'.cell? ⟨w.heap.size, 6, none⟩ = some (.string d))) (by kernel_rfl) hx0 (fun hHeld => ?_)
        refine wpAnyH_take (i := 0) (oi := _) (v := ?_) (by rfl) (by kernel_rfl) (by kernel_rfl) (by kernel_rfl) (by intro _ _ _ h; exact h) (Or.inl ⟨by rfl, fun W hSw => ?_⟩) hHeld ?_
        rotate_left 1
        · (clear hSw; first | (go_simp; done) | (go_simp; with_reducible rfl))
        try go_frame
        refine wpAnyH_take (i := 1) (oi := _) (v := ?_) (by simp only [List.getElem?_toArray, List.getElem?_cons_succ, List.getElem?_cons_zero]; rfl) (by kernel_rfl) (by kernel_rfl) (by kernel_rfl) (by intro _ _ _ h; exact h) (Or.inl ⟨by rfl, fun W hSw => ?_⟩) hHeld ?_
        rotate_left 1
        · (try dsimp only at hSw); first | (go_simp; done) | (go_simp; with_reducible rfl)
        try go_frame
        refine wpAnyH_ready (rs := [2]) (by kernel_rfl) (by simp) ?_
        refine AllReadyH.cons (o := _) (by simp only [List.getElem?_toArray, List.getElem?_cons_succ, List.getElem?_cons_zero]; rfl) (fun K hK => ?_) AllReadyH.nil
        clear hHeld
        go_simp
        refine (knownop_any _ _).mono ?_
        rintro e w' ⟨rfl, rfl⟩
        refine hK.out _ _ hx0 (fun hHeld => ?_)
        clear hK K
        try go_frame
        refine wpAnyH_take (i := 3) (oi := _) (v := ?_) (by simp only [List.getElem?_toArray, List.getElem?_cons_succ, List.getElem?_cons_zero]; rfl) (by kernel_rfl) (by kernel_rfl) (by kernel_rfl) (by intro _ _ _ h; exact h) (Or.inl ⟨by rfl, fun W hSw => ?_⟩) hHeld ?_
        rotate_left 1
        · (clear hSw; first | (go_simp; done) | (go_simp; with_reducible rfl))
        try go_frame
        refine wpAnyH_take (i := 4) (oi := _) (v := ?_) (by simp only [List.getElem?_toArray, List.getElem?_cons_succ, List.getElem?_cons_zero]; rfl) (by kernel_rfl) (by kernel_rfl) (by kernel_rfl) (by intro _ _ _ h; exact h) (Or.inl ⟨by rfl, fun W hSw => ?_⟩) hHeld ?_
        rotate_left 1
        · (try dsimp only at hSw); first | (go_simp; done) | (go_simp; with_reducible rfl)
        try go_frame
        refine wpAnyH_take (i := 5) (oi := _) (v := ?_) (by simp only [List.getElem?_toArray, List.getElem?_cons_succ, List.getElem?_cons_zero]; rfl) (by kernel_rfl) (by kernel_rfl) (by kernel_rfl) (by intro _ _ _ h; exact h) (Or.inl ⟨by rfl, fun W hSw => ?_⟩) hHeld ?_
        rotate_left 1
        · (try dsimp only at hSw); first | (go_simp; done) | (go_simp; with_reducible rfl)
        try go_frame
        refine wpAnyH_ready (rs := [6]) (by kernel_rfl) (by simp) ?_
        refine AllReadyH.cons (o := _) (by simp only [List.getElem?_toArray, List.getElem?_cons_succ, List.getElem?_cons_zero]; rfl) (fun K hK => ?_) AllReadyH.nil
        clear hHeld
        go_simp
        refine (HUS.out _).mono ?_
        rintro e w1 ⟨rfl, hb1⟩
        have hB1 : Below w.heap.size w w1 := hb0.trans (hb1.mono hb0.size)
        have hx1 := ibox_next hx0 hX0 hb1
        have hX1 := Nat.lt_of_lt_of_le hX0 hb1.size
        refine hK.out _ _ hx1 (fun hHeld => ?_)
        clear hK K
        try go_frame
        refine wpAnyH_take (i := 7) (oi := _) (v := ?_) (by simp only [List.getElem?_toArray, List.getElem?_cons_succ, List.getElem?_cons_zero]; rfl) (by kernel_rfl) (by kernel_rfl) (by kernel_rfl) (by intro _ _ _ h; exact h) (Or.inl ⟨by rfl, fun W hSw => ?_⟩) hHeld ?_
        rotate_left 1
        · (clear hSw; first | (go_simp; done) | (go_simp; with_reducible rfl))
        try go_frame
        refine wpAnyH_take (i := 8) (oi := _) (v := ?_) (by simp only [List.getElem?_toArray, List.getElem?_cons_succ, List.getElem?_cons_zero]; rfl) (by kernel_rfl) (by kernel_rfl) (by kernel_rfl) (by intro _ _ _ h; exact h) (Or.inl ⟨by rfl, fun W hSw => ?_⟩) hHeld ?_
        rotate_left 1
        · (clear hSw; first | (go_simp; done) | (go_simp; with_reducible rfl))
        try go_frame
        refine wpAnyH_take (i := 9) (oi := _) (v := ?_) (by simp only [List.getElem?_toArray, List.getElem?_cons_succ, List.getElem?_cons_zero]; rfl) (by kernel_rfl) (by kernel_rfl) (by kernel_rfl) (by intro _ _ _ h; exact h) (Or.inl ⟨by rfl, fun W hSw => ?_⟩) hHeld ?_
        rotate_left 1
        · (clear hSw; first | (go_simp; done) | (go_simp; with_reducible rfl))
        try go_frame
        refine wpAnyH_take (i := 10) (oi := _) (v := undef) (by simp only [List.getElem?_toArray, List.getElem?_cons_succ, List.getElem?_cons_zero]; rfl) (by kernel_rfl) (by kernel_rfl) (by kernel_rfl) (by intro _ _ _ h; exact h) (Or.inr ⟨by rfl, rfl⟩) hHeld ?_
        try go_frame
        refine wpAnyH_take (i := 11) (oi := _) (v := undef) (by simp only [List.getElem?_toArray, List.getElem?_cons_succ, List.getElem?_cons_zero]; rfl) (by kernel_rfl) (by kernel_rfl) (by kernel_rfl) (by intro _ _ _ h; exact h) (Or.inr ⟨by rfl, rfl⟩) hHeld ?_
        try go_frame
        refine wpAnyH_take (i := 12) (oi := _) (v := ?_) (by simp only [List.getElem?_toArray, List.getElem?_cons_succ, List.getElem?_cons_zero]; rfl) (by kernel_rfl) (by kernel_rfl) (by kernel_rfl) (by intro _ _ _ h; exact h) (Or.inl ⟨by rfl, fun W hSw => ?_⟩) hHeld ?_
        rotate_left 1
        · (clear hSw; first | (go_simp; done) | (go_simp; with_reducible rfl))
        try go_frame
        refine wpAnyH_take (i := 13) (oi := _) (v := ?_) (by simp only [List.getElem?_toArray, List.getElem?_cons_succ, List.getElem?_cons_zero]; rfl) (by kernel_rfl) (by kernel_rfl) (by kernel_rfl) (by intro _ _ _ h; exact h) (Or.inl ⟨by rfl, fun W hSw => ?_⟩) hHeld ?_
        rotate_left 1
        · (clear hSw; first | (go_simp; done) | (go_simp; with_reducible rfl))
        try go_frame
        refine wpAnyH_done (by kernel_rfl) ?_ _
        go_wp2_with fail
        go_ret
        exact ⟨ret_bool HF.out.symm, by first | exact hB2 | exact hB1 | exact hb0⟩
    · have f1 : ¬ n = n' := en
      have f2 : ¬ n' = n := fun h => en h.symm
      have f3 : (n == n') = false := by rw [beq_eq_false_iff_ne]; exact f1
      have f4 : (n' == n) = false := by rw [beq_eq_false_iff_ne]; exact f2
      have HF : Hid (rightI (o, n, k, s, c, m, d) = false) := Lib.hid (by rw [HR.out, hk, decide_eq_false (by intro e; simp only [Prod.mk.injEq] at e; exact en (by simp_all))]; rfl)
      clear HR
      go_enter Tryd.func18, Tryd.ntmps18
      go_wp2_with fail
      refine wp_region_held_drew (S := (fun w' => w'.cell? ⟨w.heap.size, 0, none⟩ = some (.int .i64 o) ∧ w'.cell? ⟨w.heap.size, 1, none⟩ = some (.int .i32 n) ∧ w'.cell? ⟨w.heap.size, 2, none⟩ = some (.int .i64 k) ∧ w'.cell? ⟨w.heap.size, 3, none⟩ = some (.string s) ∧ w'.cell? ⟨w.heap.size, 4, none⟩ = some (.string c) ∧ w'.cell? ⟨w.heap.size, 5, none⟩ = some (.string m) ∧ w'.cell? ⟨w.heap.size, 6, none⟩ = some (.string d))) (by kernel_rfl) hx0 (fun hHeld => ?_)
      refine wpAnyH_take (i := 0) (oi := _) (v := ?_) (by rfl) (by kernel_rfl) (by kernel_rfl) (by kernel_rfl) (by intro _ _ _ h; exact h) (Or.inl ⟨by rfl, fun W hSw => ?_⟩) hHeld ?_
      rotate_left 1
      · (clear hSw; first | (go_simp; done) | (go_simp; with_reducible rfl))
      try go_frame
      refine wpAnyH_take (i := 1) (oi := _) (v := ?_) (by simp only [List.getElem?_toArray, List.getElem?_cons_succ, List.getElem?_cons_zero]; rfl) (by kernel_rfl) (by kernel_rfl) (by kernel_rfl) (by intro _ _ _ h; exact h) (Or.inl ⟨by rfl, fun W hSw => ?_⟩) hHeld ?_
      rotate_left 1
      · (try dsimp only at hSw); first | (go_simp; done) | (go_simp; with_reducible rfl)
      try go_frame
      refine wpAnyH_ready (rs := [2]) (by kernel_rfl) (by simp) ?_
      refine AllReadyH.cons (o := _) (by simp only [List.getElem?_toArray, List.getElem?_cons_succ, List.getElem?_cons_zero]; rfl) (fun K hK => ?_) AllReadyH.nil
      clear hHeld
      go_simp
      refine (knownop_any _ _).mono ?_
      rintro e w' ⟨rfl, rfl⟩
      refine hK.out _ _ hx0 (fun hHeld => ?_)
      clear hK K
      try go_frame
      refine wpAnyH_take (i := 3) (oi := _) (v := ?_) (by simp only [List.getElem?_toArray, List.getElem?_cons_succ, List.getElem?_cons_zero]; rfl) (by kernel_rfl) (by kernel_rfl) (by kernel_rfl) (by intro _ _ _ h; exact h) (Or.inl ⟨by rfl, fun W hSw => ?_⟩) hHeld ?_
      rotate_left 1
      · (clear hSw; first | (go_simp; done) | (go_simp; with_reducible rfl))
      try go_frame
      refine wpAnyH_take (i := 4) (oi := _) (v := ?_) (by simp only [List.getElem?_toArray, List.getElem?_cons_succ, List.getElem?_cons_zero]; rfl) (by kernel_rfl) (by kernel_rfl) (by kernel_rfl) (by intro _ _ _ h; exact h) (Or.inl ⟨by rfl, fun W hSw => ?_⟩) hHeld ?_
      rotate_left 1
      · (try dsimp only at hSw); first | (go_simp; done) | (go_simp; with_reducible rfl)
      try go_frame
      refine wpAnyH_take (i := 5) (oi := _) (v := ?_) (by simp only [List.getElem?_toArray, List.getElem?_cons_succ, List.getElem?_cons_zero]; rfl) (by kernel_rfl) (by kernel_rfl) (by kernel_rfl) (by intro _ _ _ h; exact h) (Or.inl ⟨by rfl, fun W hSw => ?_⟩) hHeld ?_
      rotate_left 1
      · (try dsimp only at hSw); first | (go_simp; done) | (go_simp; with_reducible rfl)
      try go_frame
      refine wpAnyH_ready (rs := [6]) (by kernel_rfl) (by simp) ?_
      refine AllReadyH.cons (o := _) (by simp only [List.getElem?_toArray, List.getElem?_cons_succ, List.getElem?_cons_zero]; rfl) (fun K hK => ?_) AllReadyH.nil
      clear hHeld
      go_simp
      refine (HUS.out _).mono ?_
      rintro e w1 ⟨rfl, hb1⟩
      have hB1 : Below w.heap.size w w1 := hb0.trans (hb1.mono hb0.size)
      have hx1 := ibox_next hx0 hX0 hb1
      have hX1 := Nat.lt_of_lt_of_le hX0 hb1.size
      refine hK.out _ _ hx1 (fun hHeld => ?_)
      clear hK K
      try go_frame
      refine wpAnyH_take (i := 7) (oi := _) (v := ?_) (by simp only [List.getElem?_toArray, List.getElem?_cons_succ, List.getElem?_cons_zero]; rfl) (by kernel_rfl) (by kernel_rfl) (by kernel_rfl) (by intro _ _ _ h; exact h) (Or.inl ⟨by rfl, fun W hSw => ?_⟩) hHeld ?_
      rotate_left 1
      · (clear hSw; first | (go_simp; done) | (go_simp; with_reducible rfl))
      try go_frame
      refine wpAnyH_take (i := 8) (oi := _) (v := ?_) (by simp only [List.getElem?_toArray, List.getElem?_cons_succ, List.getElem?_cons_zero]; rfl) (by kernel_rfl) (by kernel_rfl) (by kernel_rfl) (by intro _ _ _ h; exact h) (Or.inl ⟨by rfl, fun W hSw => ?_⟩) hHeld ?_
      rotate_left 1
      · (clear hSw; first | (go_simp; done) | (go_simp; with_reducible rfl))
      try go_frame
      refine wpAnyH_take (i := 9) (oi := _) (v := ?_) (by simp only [List.getElem?_toArray, List.getElem?_cons_succ, List.getElem?_cons_zero]; rfl) (by kernel_rfl) (by kernel_rfl) (by kernel_rfl) (by intro _ _ _ h; exact h) (Or.inl ⟨by rfl, fun W hSw => ?_⟩) hHeld ?_
      rotate_left 1
      · (clear hSw; first | (go_simp; done) | (go_simp; with_reducible rfl))
      try go_frame
      refine wpAnyH_take (i := 10) (oi := _) (v := undef) (by simp only [List.getElem?_toArray, List.getElem?_cons_succ, List.getElem?_cons_zero]; rfl) (by kernel_rfl) (by kernel_rfl) (by kernel_rfl) (by intro _ _ _ h; exact h) (Or.inr ⟨by rfl, rfl⟩) hHeld ?_
      try go_frame
      refine wpAnyH_take (i := 11) (oi := _) (v := undef) (by simp only [List.getElem?_toArray, List.getElem?_cons_succ, List.getElem?_cons_zero]; rfl) (by kernel_rfl) (by kernel_rfl) (by kernel_rfl) (by intro _ _ _ h; exact h) (Or.inr ⟨by rfl, rfl⟩) hHeld ?_
      try go_frame
      refine wpAnyH_take (i := 12) (oi := _) (v := ?_) (by simp only [List.getElem?_toArray, List.getElem?_cons_succ, List.getElem?_cons_zero]; rfl) (by kernel_rfl) (by kernel_rfl) (by kernel_rfl) (by intro _ _ _ h; exact h) (Or.inl ⟨by rfl, fun W hSw => ?_⟩) hHeld ?_
      rotate_left 1
      · (clear hSw; first | (go_simp; done) | (go_simp; with_reducible rfl))
      try go_frame
      refine wpAnyH_take (i := 13) (oi := _) (v := ?_) (by simp only [List.getElem?_toArray, List.getElem?_cons_succ, List.getElem?_cons_zero]; rfl) (by kernel_rfl) (by kernel_rfl) (by kernel_rfl) (by intro _ _ _ h; exact h) (Or.inl ⟨by rfl, fun W hSw => ?_⟩) hHeld ?_
      rotate_left 1
      · (clear hSw; first | (go_simp; done) | (go_simp; with_reducible rfl))
      try go_frame
      refine wpAnyH_done (by kernel_rfl) ?_ _
      go_wp2_with fail
      go_ret
      exact ⟨ret_bool HF.out.symm, by first | exact hB2 | exact hB1 | exact hb0⟩

end Go.Proofs.YtibciicpgjgjbaaDoor
