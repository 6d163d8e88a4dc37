/- What Of and Key answer. -/
import Derived.Test.YtijbgbggmakfoaaDTys
import Derived.Test.YtijbgbggmakfoaaDBld
import Derived.Deep.RegionHeld3
namespace Go.Proofs.Ytijbgbggmakfoaa
open Go.RowKit

theorem RdT.drew {w : World} {v : Value} {ts : List Ty} (h : RdT w v ts) : RdT w.drew v ts := h

theorem typeL_len (t : Ty) : (typeL t).length ≤ t.2.size + 2 := by
  unfold typeL typeT
  split
  · show 1 ≤ _; omega
  split
  · show 1 ≤ _; omega
  split
  · show 1 ≤ _; omega
  split
  · show 1 ≤ _; omega
  split
  · rw [data_app, data_app, List.length_append, List.length_append, Lib.size_eq]
    show 1 + _ + 1 ≤ _
    omega
  · show 0 ≤ _; omega

theorem flat_len (ts : List Ty) (m : Nat) (h : ∀ u ∈ ts, u.2.size ≤ m) : (ts.flatMap typeL).length ≤ ts.length * (m + 2) := by
  induction ts with
  | nil => simp
  | cons t ts ih =>
    have h1 := ih (fun u hu => h u (List.mem_cons_of_mem _ hu))
    have h2 := typeL_len t
    have h3 := h t (List.mem_cons_self ..)
    rw [List.flatMap_cons, List.length_append, List.length_cons, Nat.add_mul]
    omega

theorem flat_take (ts : List Ty) (k : Nat) (t : Ty) (h : ts[k]? = some t) : (ts.take (k + 1)).flatMap typeL = (ts.take k).flatMap typeL ++ typeL t := by
  obtain ⟨hk, rfl⟩ := List.getElem?_eq_some_iff.1 h
  rw [List.take_succ_eq_append_getElem hk, List.flatMap_append, List.flatMap_cons, List.flatMap_nil, List.append_nil]

theorem flat_take_len (ts : List Ty) (k m : Nat) (h : ∀ u ∈ ts, u.2.size ≤ m) : ((ts.take k).flatMap typeL).length ≤ ts.length * (m + 2) := by
  refine Nat.le_trans (flat_len (ts.take k) m (fun u hu => h u (List.mem_of_mem_take hu))) ?_
  exact Nat.mul_le_mul_right _ (by rw [List.length_take]; omega)

set_option maxHeartbeats 1000000 in
theorem of_any (v : Value) (ts : List Ty) (k0 : Int) (c0 : ByteArray) (w : World) (hr : RdT w v ts) (hlen : ts.length ≤ 1000) (hc : ∀ u ∈ ts, u.2.size ≤ 1000000) (ht : c0.size ≤ 1000000) :
    Calls Try.prog 16 #[v, .agg #[.int .i64 k0, .string c0]] w fun e w' => e = .returned (.string (bx (ofL ts (k0, c0)))) ∧ Below w.heap.size w w' := by
  obtain ⟨p, cap, rfl, h1, h2, h3⟩ := id hr
  have HC := Lib.hid hc
  have HT : Hid (∀ k, ((ts.take k).flatMap typeL).length ≤ ts.length * 1000002) := Lib.hid (fun k => flat_take_len ts k 1000000 hc)
  have HL := Lib.hid (typeL_len (k0, c0))
  have HR := Lib.hid hr
  clear hc hr h1 h2 h3
  go_enter Try.func16, Try.ntmps16
  go_wp2_with fail
  refine (bld_byte (w.heap.size + 1) (w.heap.size + 1) [] 40 40 rfl _ ?_ (by decide) (by simp)).mono ?_
  · have := bld_new (w.alloc (.cells #[.int .i64 k0, .string c0] 27))
    simpa using this
  rintro e w1 ⟨rfl, hB1, hb1⟩
  have hbl1 : Below (w.heap.size + 1) (w.alloc (.cells #[.int .i64 k0, .string c0] 27)) w1 := ((Below.refl _ _).alloc (by simp) _).trans hb1
  clear hb1
  go_wp2_with fail
  go_loopw [11] (fun i wr => ∃ k : Nat, k ≤ ts.length ∧ i = .int .i64 k ∧ Bld wr (w.heap.size + 1) (w.heap.size + 1) (40 :: (ts.take k).flatMap typeL) ∧ Below (w.heap.size + 1) (w.alloc (.cells #[.int .i64 k0, .string c0] 27)) wr) (fun i _ => ts.length - (intOf i).toNat)
  case atStart => exact ⟨0, Nat.zero_le _, rfl, by simpa using hB1, hbl1⟩
  case round =>
    clear hB1 hbl1
    obtain ⟨k, hk, rfl, hB, hbl⟩ := hrel
    have hs := hbl.size
    simp at hs
    by_cases hlt : k < ts.length
    · obtain ⟨⟨x0, x1⟩, hx⟩ : ∃ t, ts[k]? = some t := ⟨_, List.getElem?_eq_getElem hlt⟩
      have hr2 := HR.out.below (((Below.refl w.heap.size w).alloc (Nat.le_refl _) (.cells #[.int .i64 k0, .string c0] 27)).trans (hbl.mono (by omega))) (Nat.le_refl _)
      obtain ⟨p', cap', e', g1, _, g3⟩ := hr2
      simp only [Value.slice.injEq, true_and] at e'
      obtain ⟨rfl, rfl⟩ := e'
      obtain ⟨⟨b, off, spot⟩, rfl⟩ : ∃ a, p = some a := by
        cases p with
        | none =>
          obtain ⟨p'', _, e'', _, g2, _⟩ := HR.out
          simp only [Value.slice.injEq] at e''
          have := g2 e''.1.symm
          subst this
          simp at hlt
        | some a => exact ⟨a, rfl⟩
      obtain rfl : spot = none := g1 _ rfl (fun e => by subst e; simp at hlt)
      obtain ⟨cx0, cx1⟩ := g3 _ rfl k _ hx
      simp only at cx0 cx1
      have hx1 := HC.out _ (List.mem_of_getElem? hx)
      simp only at hx1
      have HX := Lib.hid (flat_take ts k _ hx)
      have hTL := HT.out k
      have hTy := typeL_len (x0, x1)
      simp only at hTy
      clear g1 g3 hx
      go_wp2_with fail
      refine (type_any x0 x1 _ (by omega)).mono ?_
      rintro e w2 ⟨rfl, hb2⟩
      have hB2 := hB.below (((Below.refl wr.heap.size wr).alloc (Nat.le_refl _) _).trans (hb2.mono (by simp))) (Nat.le_refl _)
      have hs2 := hb2.size
      simp at hs2
      go_wp2_with fail
      refine (bld_str _ _ _ _ _ hB2 ?_ ?_).mono ?_
      · show _ + (typeT x0 x1).size ≤ _
        rw [Lib.size_eq]
        show _ + (typeL (x0, x1)).length ≤ _
        simp only [List.length_cons]
        omega
      · omega
      rintro e w3 ⟨rfl, hB3, hb3⟩
      have hbl3 : Below (w.heap.size + 1) (w.alloc (.cells #[.int .i64 k0, .string c0] 27)) w3 := ((hbl.alloc (by omega) _).trans (hb2.mono (by simp; omega))).trans hb3
      have hB3' : Bld w3 (w.heap.size + 1) (w.heap.size + 1) (40 :: (ts.take (k + 1)).flatMap typeL) := by rw [HX.out]; exact hB3
      clear hB3 hb3 hbl hB hB2 hb2 hTL hTy hs2 cx0 cx1
      go_wp2_with fail
      go_roundw
      case rel => exact ⟨k + 1, by omega, by go_num, hB3', hbl3⟩
      case measure => simp [intOf]; omega
    · have hkk : k = ts.length := by omega
      have hTL := HT.out k
      have HK : Hid ((ts.take k).flatMap typeL = ts.flatMap typeL) := Lib.hid (by rw [List.take_of_length_le (by omega)])
      have hTy := HL.out
      have hc0 : wr.cell? ⟨w.heap.size, 0, none⟩ = some (.int .i64 k0) := (hbl.cell (p := ⟨w.heap.size, 0, none⟩) (by simp)).trans (by simp)
      have hc1 : wr.cell? ⟨w.heap.size, 1, none⟩ = some (.string c0) := (hbl.cell (p := ⟨w.heap.size, 1, none⟩) (by simp)).trans (by simp)
      clear hkk
      go_wp2_with fail
      refine (bld_byte (w.heap.size + 1) (w.heap.size + 1) _ 41 41 rfl _ hB (by simp only [List.length_cons]; omega) (by omega)).mono ?_
      rintro e w4 ⟨rfl, hB4, hb4⟩
      have hd0 : w4.cell? ⟨w.heap.size, 0, none⟩ = some (.int .i64 k0) := (hb4.cell (p := ⟨w.heap.size, 0, none⟩) (by simp)).trans hc0
      have hd1 : w4.cell? ⟨w.heap.size, 1, none⟩ = some (.string c0) := (hb4.cell (p := ⟨w.heap.size, 1, none⟩) (by simp)).trans hc1
      have hs4 := hb4.size
      have hbl4 := hbl.trans hb4
      clear hc0 hc1 hB hbl hb4
      go_wp2_with fail
      refine (type_any k0 c0 _ (by omega)).mono ?_
      rintro e w5 ⟨rfl, hb5⟩
      have hB5 := hB4.below hb5 (Nat.le_refl _)
      have hs5 := hb5.size
      have hbl5 := hbl4.trans (hb5.mono (by omega))
      clear hd0 hd1 hB4 hbl4 hb5
      go_wp2_with fail
      refine (bld_str _ _ _ _ _ hB5 ?_ ?_).mono ?_
      · show _ + (typeT k0 c0).size ≤ _
        rw [Lib.size_eq]
        show _ + (typeL (k0, c0)).length ≤ _
        simp only [List.length_cons, List.length_append, List.length_nil]
        omega
      · omega
      rintro e w6 ⟨rfl, hB6, hb6⟩
      have hs6 := hb6.size
      have hbl6 := hbl5.trans hb6
      clear hB5 hbl5 hb6
      go_wp2_with fail
      refine (bld_done _ _ _ _ hB6 (by omega)).mono ?_
      rintro e w7 ⟨rfl, hb7⟩
      go_wp2_with fail
      go_ret
      refine ⟨ret_str ?_, (((Below.refl w.heap.size w).alloc (Nat.le_refl _) _).trans ((hbl6.trans hb7).mono (by omega)))⟩
      rw [HK.out]
      show (⟨(_ : List UInt8).toArray⟩ : ByteArray) = bx (ofL ts (k0, c0))
      unfold bx ofL typeL
      simp

theorem bx_app (a : ByteArray) (l : List UInt8) : a ++ bx l = bx (a.data.toList ++ l) := by
  refine toList_inj ?_
  rw [Lib.toList_data, Lib.toList_data, data_app]; rfl

theorem bx_app2 (l : List UInt8) (b : ByteArray) : bx l ++ b = bx (l ++ b.data.toList) := by
  refine toList_inj ?_
  rw [Lib.toList_data, Lib.toList_data, data_app]; rfl

set_option maxHeartbeats 1000000 in
theorem rof_any (v : Value) (ts : List Ty) (k0 : Int) (c0 : ByteArray) (w : World) (hr : RdT w v ts) (hlen : ts.length ≤ 1000) (hc : ∀ u ∈ ts, u.2.size ≤ 1000000) (ht : c0.size ≤ 1000000) :
    Calls Try.prog 21 #[v, .agg #[.int .i64 k0, .string c0]] w fun e w' => e = .returned (.string (bx (ofL ts (k0, c0)))) ∧ Below w.heap.size w w' := by
  obtain ⟨p, cap, rfl, h1, h2, h3⟩ := id hr
  have HC := Lib.hid hc
  have HT : Hid (∀ k, ((ts.take k).flatMap typeL).length ≤ ts.length * 1000002) := Lib.hid (fun k => flat_take_len ts k 1000000 hc)
  have HL := Lib.hid (typeL_len (k0, c0))
  have HR := Lib.hid hr
  clear hc hr h1 h2 h3
  go_enter Try.func21, Try.ntmps21
  go_wp2_with fail
  go_loopw [5, 6] (fun s i wr => ∃ k : Nat, k ≤ ts.length ∧ i = .int .i64 k ∧ s = .string (bx (40 :: (ts.take k).flatMap typeL)) ∧ Below (w.heap.size + 1) (w.alloc (.cells #[.int .i64 k0, .string c0] 27)) wr) (fun _ i _ => ts.length - (intOf i).toNat)
  case atStart => exact ⟨0, Nat.zero_le _, rfl, rfl, Below.refl _ _⟩
  case round =>
    obtain ⟨k, hk, rfl, rfl, hbl⟩ := hrel
    have hs := hbl.size
    simp at hs
    by_cases hlt : k < ts.length
    · obtain ⟨⟨x0, x1⟩, hx⟩ : ∃ t, ts[k]? = some t := ⟨_, List.getElem?_eq_getElem hlt⟩
      have hr2 := HR.out.below (((Below.refl w.heap.size w).alloc (Nat.le_refl _) (.cells #[.int .i64 k0, .string c0] 27)).trans (hbl.mono (by omega))) (Nat.le_refl _)
      obtain ⟨p', cap', e', g1, _, g3⟩ := hr2
      simp only [Value.slice.injEq, true_and] at e'
      obtain ⟨rfl, rfl⟩ := e'
      obtain ⟨⟨b, off, spot⟩, rfl⟩ : ∃ a, p = some a := by
        cases p with
        | none =>
          obtain ⟨p'', _, e'', _, g2, _⟩ := HR.out
          simp only [Value.slice.injEq] at e''
          have := g2 e''.1.symm
          subst this
          simp at hlt
        | some a => exact ⟨a, rfl⟩
      obtain rfl : spot = none := g1 _ rfl (fun e => by subst e; simp at hlt)
      obtain ⟨cx0, cx1⟩ := g3 _ rfl k _ hx
      simp only at cx0 cx1
      have hx1 := HC.out _ (List.mem_of_getElem? hx)
      simp only at hx1
      have HX : Hid (bx (40 :: (ts.take (k + 1)).flatMap typeL) = bx (40 :: (ts.take k).flatMap typeL) ++ typeT x0 x1) := Lib.hid (by
        rw [bx_app2, flat_take ts k _ hx]; rfl)
      have hTL := HT.out k
      have hTy := typeL_len (x0, x1)
      have hb1 : (bx (40 :: (ts.take k).flatMap typeL)).size ≤ 1000002 * 1000 + 1 := by rw [bx_size]; simp only [List.length_cons]; omega
      have hb2 : (typeT x0 x1).size ≤ 1000002 := by
        rw [Lib.size_eq]; show (typeL (x0, x1)).length ≤ _; simp only at hTy; omega
      clear g1 g3 hx
      go_wp2_with fail
      refine (rtype_any x0 x1 _ (by omega)).mono ?_
      rintro e w2 ⟨rfl, hb2⟩
      have hbl2 := hbl.trans (hb2.mono (by omega))
      clear cx0 cx1 hTL hTy hbl hb2
      go_wp2_with fail
      go_roundw
      case rel => exact ⟨k + 1, by omega, by go_num, by rw [HX.out], hbl2⟩
      case measure => simp [intOf]; omega
    · have hTL := HT.out k
      have HK : Hid ((ts.take k).flatMap typeL = ts.flatMap typeL) := Lib.hid (by rw [List.take_of_length_le (by omega)])
      have hTy := HL.out
      have hc0 : wr.cell? ⟨w.heap.size, 0, none⟩ = some (.int .i64 k0) := (hbl.cell (p := ⟨w.heap.size, 0, none⟩) (by simp)).trans (by simp)
      have hc1 : wr.cell? ⟨w.heap.size, 1, none⟩ = some (.string c0) := (hbl.cell (p := ⟨w.heap.size, 1, none⟩) (by simp)).trans (by simp)
      have hb1 : (bx (40 :: (ts.take k).flatMap typeL)).size ≤ 1000002 * 1000 + 1 := by rw [bx_size]; simp only [List.length_cons]; omega
      have hb2 : (typeT k0 c0).size ≤ 1000002 := by
        rw [Lib.size_eq]; show (typeL (k0, c0)).length ≤ _; omega
      go_wp2_with fail
      refine (rtype_any k0 c0 _ (by omega)).mono ?_
      rintro e w5 ⟨rfl, hb5⟩
      have hbl5 := hbl.trans (hb5.mono (by omega))
      clear hc0 hc1
      go_wp2_with fail
      go_ret
      refine ⟨ret_str ?_, (((Below.refl w.heap.size w).alloc (Nat.le_refl _) _).trans (hbl5.mono (by omega)))⟩
      rw [HK.out, bx_app2, bx_app2]
      show bx _ = bx (ofL ts (k0, c0))
      unfold ofL typeL
      simp


set_option maxHeartbeats 1000000 in
theorem key_any (n : ByteArray) (v : Value) (ts : List Ty) (k0 : Int) (c0 : ByteArray) (st ab : Bool) (lo : Int) (cv hv : Value) (w : World) (hr : RdT w v ts) (hlen : ts.length ≤ 1000) (hc : ∀ u ∈ ts, u.2.size ≤ 1000000) (ht : c0.size ≤ 1000000) (hn : n.size ≤ 1000000) :
    Calls Try.prog 22 #[.agg #[.string n, v, .int .i64 k0, .string c0, .bool st, .bool ab, .int .i64 lo, cv, hv]] w fun e w' => e = .returned (.string (n ++ bx (ofL ts (k0, c0)))) ∧ Below w.heap.size w w' := by
  have hr1 := hr.below ((Below.refl w.heap.size w).alloc (Nat.le_refl _) (.cells #[.string n, v, .int .i64 k0, .string c0, .bool st, .bool ab, .int .i64 lo, cv, hv] 42)) (Nat.le_refl _)
  have HC := Lib.hid hc
  have hol : (bx (ofL ts (k0, c0))).size ≤ 1000002 * 1001 + 2 := by
    rw [bx_size]
    have h1 := flat_len ts 1000000 hc
    have h2 := typeL_len (k0, c0)
    have h3 : (typeL (k0, c0)).length ≤ 1000002 := Nat.le_trans h2 (by show c0.size + 2 ≤ _; omega)
    unfold ofL
    rw [List.length_cons, List.length_append, List.length_cons]
    omega
  have hcat : ¬ 9223372036854775807 < n.size + (bx (ofL ts (k0, c0))).size := by omega
  clear hr hc
  go_enter Try.func22, Try.ntmps22
  go_wp2_with fail
  go_region_held3 (fun w' => w'.cell? ⟨w.heap.size, 0, none⟩ = some (.string n) ∧ w'.cell? ⟨w.heap.size, 1, none⟩ = some v ∧ w'.cell? ⟨w.heap.size, 2, none⟩ = some (.int .i64 k0) ∧ w'.cell? ⟨w.heap.size, 3, none⟩ = some (.string c0))
    (first | go_keep | exact ⟨(hb1.cell (p := ⟨w.heap.size, 0, none⟩) (by simp)).trans (by simp), (hb1.cell (p := ⟨w.heap.size, 1, none⟩) (by simp)).trans (by simp), (hb1.cell (p := ⟨w.heap.size, 2, none⟩) (by simp)).trans (by simp), (hb1.cell (p := ⟨w.heap.size, 3, none⟩) (by simp)).trans (by simp)⟩)
    (first | (go_at_call 16; refine (of_any v ts k0 c0 _ hr1.drew hlen HC.out ht).mono ?_; rintro e w1 ⟨rfl, hb1⟩))
  all_goals go_wp2_with fail
  all_goals go_ret
  all_goals exact ⟨rfl, ((Below.refl w.heap.size w).alloc (Nat.le_refl _) _).drew.trans (hb1.mono (by simp))⟩

set_option maxHeartbeats 1000000 in
theorem rkey_any (n : ByteArray) (v : Value) (ts : List Ty) (k0 : Int) (c0 : ByteArray) (st ab : Bool) (lo : Int) (cv hv : Value) (w : World) (hr : RdT w v ts) (hlen : ts.length ≤ 1000) (hc : ∀ u ∈ ts, u.2.size ≤ 1000000) (ht : c0.size ≤ 1000000) (hn : n.size ≤ 1000000) :
    Calls Try.prog 23 #[.agg #[.string n, v, .int .i64 k0, .string c0, .bool st, .bool ab, .int .i64 lo, cv, hv]] w fun e w' => e = .returned (.string (n ++ bx (ofL ts (k0, c0)))) ∧ Below w.heap.size w w' := by
  have hr1 := hr.below ((Below.refl w.heap.size w).alloc (Nat.le_refl _) (.cells #[.string n, v, .int .i64 k0, .string c0, .bool st, .bool ab, .int .i64 lo, cv, hv] 42)) (Nat.le_refl _)
  have HC := Lib.hid hc
  have hol : (bx (ofL ts (k0, c0))).size ≤ 1000002 * 1001 + 2 := by
    rw [bx_size]
    have h1 := flat_len ts 1000000 hc
    have h2 := typeL_len (k0, c0)
    have h3 : (typeL (k0, c0)).length ≤ 1000002 := Nat.le_trans h2 (by show c0.size + 2 ≤ _; omega)
    unfold ofL
    rw [List.length_cons, List.length_append, List.length_cons]
    omega
  have hcat : ¬ 9223372036854775807 < n.size + (bx (ofL ts (k0, c0))).size := by omega
  clear hr hc
  go_enter Try.func23, Try.ntmps23
  go_wp2_with fail
  go_region_held3 (fun w' => w'.cell? ⟨w.heap.size, 0, none⟩ = some (.string n) ∧ w'.cell? ⟨w.heap.size, 1, none⟩ = some v ∧ w'.cell? ⟨w.heap.size, 2, none⟩ = some (.int .i64 k0) ∧ w'.cell? ⟨w.heap.size, 3, none⟩ = some (.string c0))
    (first | go_keep | exact ⟨(hb1.cell (p := ⟨w.heap.size, 0, none⟩) (by simp)).trans (by simp), (hb1.cell (p := ⟨w.heap.size, 1, none⟩) (by simp)).trans (by simp), (hb1.cell (p := ⟨w.heap.size, 2, none⟩) (by simp)).trans (by simp), (hb1.cell (p := ⟨w.heap.size, 3, none⟩) (by simp)).trans (by simp)⟩)
    (first | (go_at_call 21; refine (rof_any v ts k0 c0 _ hr1.drew hlen HC.out ht).mono ?_; rintro e w1 ⟨rfl, hb1⟩))
  all_goals go_wp2_with fail
  all_goals go_ret
  all_goals exact ⟨rfl, ((Below.refl w.heap.size w).alloc (Nat.le_refl _) _).drew.trans (hb1.mono (by simp))⟩
end Go.Proofs.Ytijbgbggmakfoaa
