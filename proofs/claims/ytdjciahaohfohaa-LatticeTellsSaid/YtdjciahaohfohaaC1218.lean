/- Texts that the proof is made of, joined. No condition. -/
import Derived.Test.YtdjciahaohfohaaC1214
import Derived.Test.YtdjciahaohfohaaC1217
import Derived.Deep.DeepCutAuto
import Derived.Deep.CutBlock
import Derived.Test.YtdjciahaohfohaaC12H
set_option linter.unusedVariables false
set_option linter.unusedSimpArgs false
set_option maxRecDepth 100000
set_option maxHeartbeats 16000000
namespace Go.Proofs.Ytdjciahaohfohaa.R
open Go.RowKit Go.Proofs.Ytdjciahaohfohaa.D Go.Proofs.Ytdjciahaohfohaa.O Go.Proofs.Ytdjciahaohfohaa.A
theorem of_sz {s : ByteArray} {n B : Nat} (hB : 9 ≤ B) (hs : s.size ≤ B) : (ofJ n s).2.size ≤ B := by
  unfold ofJ
  split
  · have key : ∀ i : Fin 12, (nmJ.getD i.val es).size ≤ 9 := by decide
    exact Nat.le_trans (key ⟨n % 12, Nat.mod_lt _ (by decide)⟩) hB
  · have h8 := Nat.mod_lt n (show 0 < 8 by decide)
    have h9 : n % 8 = 0 ∨ n % 8 = 1 ∨ n % 8 = 2 ∨ n % 8 = 3 ∨ n % 8 = 4 ∨ n % 8 = 5 ∨ n % 8 = 6 ∨ n % 8 = 7 := by omega
    rcases h9 with e | e | e | e | e | e | e | e <;> rw [e] <;> first | exact hs | exact Nat.zero_le _
theorem bx_below {W W' : World} {g : Nat} {k : Int} {s : ByteArray} (h : W.heap[g]? = some (.cells #[.int .i64 k, .string s] 24 (0, 0))) (hb : Below W.heap.size W W') : W'.heap[g]? = some (.cells #[.int .i64 k, .string s] 24 (0, 0)) :=
  (hb.block _ (Array.getElem?_eq_some_iff.1 h).1).trans h
def TwoW (W : World) (ok ok2 : Nat → Prop) (vt : Value) (K : List Cls) (rb : Nat) (p : Option Addr) (cap : Nat) (A : List Cls) (T : List Sk) : Prop := TrN W ok vt K ∧ RfW ok2 W rb p cap A ∧ K.map skOf = T ∧ A.map skOf = T ∧ (∀ s, (ifsT T s).length ≤ 1000)
theorem TwoW.below {W W' : World} {ok ok2 : Nat → Prop} {vt : Value} {K : List Cls} {rb : Nat} {p : Option Addr} {cap : Nat} {A : List Cls} {T : List Sk} (h : TwoW W ok ok2 vt K rb p cap A T) (hb : Below W.heap.size W W') : TwoW W' ok ok2 vt K rb p cap A T :=
  ⟨h.1.below hb, h.2.1.below hb, h.2.2⟩
section
variable {W : World} {ok ok2 : Nat → Prop} {vt : Value} {K : List Cls} {rb : Nat} {p : Option Addr} {cap : Nat} {A : List Cls} {T : List Sk} (h : TwoW W ok ok2 vt K rb p cap A T)
include h
theorem TwoW.join {k1 k2 : Int} {s1 s2 : ByteArray} (ha : s1.size ≤ maxLen) (hb : s2.size ≤ maxLen) : Calls Try.prog 12 #[vt, .agg #[.int .i64 k1, .string s1], .agg #[.int .i64 k2, .string s2]] W fun e w' => e = .returned (tyv (joinT T (k1, s1) (k2, s2))) ∧ Below W.heap.size W w' := by
  have := Join_n ok vt K (k1, s1) (k2, s2) W h.1 ha hb
  rwa [h.2.2.1] at this
theorem TwoW.rjoin {k1 k2 : Int} {s1 s2 : ByteArray} : Calls Try.prog 13 #[.pointer (some ⟨rb, 0, none⟩), .agg #[.int .i64 k1, .string s1], .agg #[.int .i64 k2, .string s2]] W fun e w' => e = .returned (tyv (joinT T (k1, s1) (k2, s2))) ∧ Below W.heap.size W w' := by
  have := Join_r rb p cap A (k1, s1) (k2, s2) W h.2.1
  rwa [h.2.2.2.1] at this
theorem TwoW.fits {k1 k2 : Int} {s1 s2 : ByteArray} (ha : s1.size ≤ maxLen) (hb : s2.size ≤ maxLen) : Calls Try.prog 14 #[vt, .agg #[.int .i64 k1, .string s1], .agg #[.int .i64 k2, .string s2]] W fun e w' => e = .returned (.bool (fitsT T (k1, s1) (k2, s2))) ∧ Below W.heap.size W w' := by
  have := Fits_n ok vt K (k1, s1) (k2, s2) W h.1 ha hb
  rwa [h.2.2.1] at this
theorem TwoW.rfits {k1 k2 : Int} {s1 s2 : ByteArray} : Calls Try.prog 15 #[.pointer (some ⟨rb, 0, none⟩), .agg #[.int .i64 k1, .string s1], .agg #[.int .i64 k2, .string s2]] W fun e w' => e = .returned (.bool (fitsT T (k1, s1) (k2, s2))) ∧ Below W.heap.size W w' := by
  have := Fits_r rb p cap A (k1, s1) (k2, s2) W h.2.1 (by rw [h.2.2.2.1]; exact h.2.2.2.2)
  rwa [h.2.2.2.1] at this
end
theorem rrefers_c {W : World} {k : Int} {s : ByteArray} : Calls Try.prog 17 #[.agg #[.int .i64 k, .string s]] W fun e w' => e = .returned (.bool (refB (k, s))) ∧ Below W.heap.size W w' := Refers_r (k, s) W
theorem c1_at {W : World} {g : Nat} {v : Value} {T : TypeId} {f : Nat × Nat} (h : W.heap[g]? = some (.cells #[v] T f)) : g < W.heap.size ∧ W.cell? ⟨g, 0, none⟩ = some v :=
  ⟨(Array.getElem?_eq_some_iff.1 h).1, by simp [World.cell?, h]⟩
theorem blk_below {W W' : World} {g : Nat} {o : Obj} (h : W.heap[g]? = some o) (hb : Below W.heap.size W W') : W'.heap[g]? = some o := (hb.block _ (Array.getElem?_eq_some_iff.1 h).1).trans h
set_option maxHeartbeats 8000000 in
set_option maxRecDepth 100000 in
theorem tells_l (k0 k1 k2 k3 x y : Nat) (s sa sb : ByteArray) (ak bk : Int) (l m : List UInt8) (pl pm : Option Addr) (cl cm : Nat) (w : World) (h0 : k0 < 256) (h1 : k1 < 256) (h2 : k2 < 256) (h3 : k3 < 256) (hx : x < 256) (hy : y < 256) (hs : s.size ≤ 140737488355328) (hsa : sa.size ≤ 140737488355328) (hsb : sb.size ≤ 140737488355328)
    (hl : Rd w (.slice pl l.length cl) l) (hpl : l = [] ∨ ∀ g, (Value.slice pl l.length cl).ownBlock = some g → g < w.heap.size) (hm : Rd w (.slice pm m.length cm) m) (hpm : m = [] ∨ ∀ g, (Value.slice pm m.length cm).ownBlock = some g → g < w.heap.size) :
    Calls Try.prog 3 #[.agg #[.int .u8 (k0 : Int), .int .u8 (k1 : Int), .int .u8 (k2 : Int), .int .u8 (k3 : Int)], .int .u8 (x : Int), .int .u8 (y : Int), .string s, .agg #[.int .i64 ak, .string sa], .agg #[.int .i64 bk, .string sb], .slice pl l.length cl, .slice pm m.length cm] w fun e w' => e = .returned (.bool true) ∧ Below w.heap.size w w' := by
  have HL0 := Lib.hid hl
  have HP0 := Lib.hid hpl
  have HM0 := Lib.hid hm
  have HQ0 := Lib.hid hpm
  clear hl hpl hm hpm
  obtain ⟨w0, hw0⟩ : ∃ x, x = ((w.alloc (.cells #[.int .u8 (k0 : Int), .int .u8 (k1 : Int), .int .u8 (k2 : Int), .int .u8 (k3 : Int)] 22)).alloc (.cells #[.int .i64 ak, .string sa] 24)).alloc (.cells #[.int .i64 bk, .string sb] 24) := ⟨_, rfl⟩
  have hbA := jbl2 (w.alloc (.cells #[.int .u8 (k0 : Int), .int .u8 (k1 : Int), .int .u8 (k2 : Int), .int .u8 (k3 : Int)] 22)) (.cells #[.int .i64 ak, .string sa] 24) (.cells #[.int .i64 bk, .string sb] 24)
  have HB0 : Hid (Below w.heap.size w w0) := Lib.hid (by rw [hw0]; exact (below_alR _ _).trans (hbA.mono (below_alR _ _).size))
  have HX0 : Hid (w0.heap[w.heap.size]? = some (.cells #[.int .u8 (k0 : Int), .int .u8 (k1 : Int), .int .u8 (k2 : Int), .int .u8 (k3 : Int)] 22 (0, 0))) := Lib.hid (by rw [hw0, hbA.block _ (by simp)]; exact heap_alloc_new _ _)
  have HA : Hid (w0.heap[w.heap.size + 1]? = some (.cells #[.int .i64 ak, .string sa] 24 (0, 0))) := Lib.hid (by rw [hw0, (below_alR _ _).block _ (by simp)]; exact jal2 _ _ _ _)
  have HC : Hid (w0.heap[w.heap.size + 2]? = some (.cells #[.int .i64 bk, .string sb] 24 (0, 0))) := Lib.hid (by rw [hw0]; have h := heap_alloc_new ((w.alloc (.cells #[.int .u8 (k0 : Int), .int .u8 (k1 : Int), .int .u8 (k2 : Int), .int .u8 (k3 : Int)] 22)).alloc (.cells #[.int .i64 ak, .string sa] 24)) (.cells #[.int .i64 bk, .string sb] 24); simp only [World.size_alloc] at h; exact h)
  clear hbA
  go_enter Try.func3, Try.ntmps3
  try simp only [List.append_eq, List.cons_append, List.nil_append]
  go_wp2_with fail
  rw [← hw0]
  clear hw0
  obtain ⟨kb, hkb⟩ : ∃ x, w.heap.size = x := ⟨_, rfl⟩
  rw [hkb] at HX0 HA HC ⊢
  clear hkb
  refine (known_11 w0).mono ?_
  rintro e w1 ⟨rfl, hb1⟩
  have hX1 := (hb1.block _ (Array.getElem?_eq_some_iff.1 HX0.out).1).trans HX0.out
  replace HA := Lib.hid (bx_below HA.out hb1)
  replace HC := Lib.hid (bx_below HC.out hb1)
  have HB1 := Lib.hid (HB0.out.trans (hb1.mono HB0.out.size))
  obtain ⟨xl, xc, -⟩ := boxN hX1
  have x0 := xc 0 _ rfl
  have x1 := xc 1 _ rfl
  have x2 := xc 2 _ rfl
  have x3 := xc 3 _ rfl
  simp only [Nat.zero_add] at x0 x1 x2 x3
  obtain ⟨al, a0, a1⟩ := c2_at HA.out
  obtain ⟨cl', c0, c1⟩ := c2_at HC.out
  clear hb1 hX1 HX0 HB0 xc
  by_cases hz : 200 < s.size + sa.size + sb.size
  · have hz' : (200 : Int) < (s.size : Int) + (sa.size : Int) + (sb.size : Int) := by omega
    go_wp2_with fail
    go_ret
    exact ⟨rfl, HB1.out⟩
  have hz' : ¬ (200 : Int) < (s.size : Int) + (sa.size : Int) + (sb.size : Int) := by omega
  by_cases hll : 12 < l.length
  · have hll' : (12 : Int) < (l.length : Int) := by omega
    go_wp2_with fail
    go_ret
    exact ⟨rfl, HB1.out⟩
  have hll' : ¬ (12 : Int) < (l.length : Int) := by omega
  by_cases hmm : 12 < m.length
  · have hmm' : (12 : Int) < (m.length : Int) := by omega
    go_wp2_with fail
    go_ret
    exact ⟨rfl, HB1.out⟩
  have hmm' : ¬ (12 : Int) < (m.length : Int) := by omega
  have zs : s.size ≤ 200 := by omega
  have za : sa.size ≤ 200 := by omega
  have zb : sb.size ≤ 200 := by omega
  go_wp2_with fail
  refine (archive_0 k0 k1 k2 k3 w1 h0 h1 h2 h3).mono ?_
  rintro e w2 ⟨p1, n1, c1', rfl, hr1, hb2⟩
  obtain ⟨_, _, e1, -⟩ := hr1.len
  simp only [Value.slice.injEq] at e1
  obtain ⟨rfl, rfl, rfl⟩ := e1
  have HR1 := Lib.hid hr1
  replace HA := Lib.hid (bx_below HA.out hb2)
  replace HC := Lib.hid (bx_below HC.out hb2)
  have HB2 := Lib.hid (HB1.out.trans (hb2.mono HB1.out.size))
  have HZL : Hid (l.length ≤ 12 ∧ m.length ≤ 12) := Lib.hid (by omega)
  have HZS : Hid (s.size ≤ 200 ∧ sa.size ≤ 200 ∧ sb.size ≤ 200) := Lib.hid ⟨zs, za, zb⟩
  clear hr1 hb2 HB1 x0 x1 x2 x3 xl al a0 a1 cl' c0 c1 hz hz' hll hll' hmm hmm' zs za zb hs hsa hsb h0 h1 h2 h3
  go_upto_region 6 with fail
  have HR0 := HR1
  have HSZ0 := Lib.hid (seat_sz8 k0 k1 k2 k3)
  have HFW0 := Lib.hid (seat_few k0 k1 k2 k3)
  have HKT0 := Lib.hid (seat_kept k0 k1 k2 k3)
  have HAT0 := Lib.hid (seat_sk k0 k1 k2 k3)
  obtain ⟨T, hT⟩ : ∃ t, (tabT (bitS k0 3) (bitS k0 6) (bitS k2 2)) = t := ⟨_, rfl⟩
  obtain ⟨AR, hAR⟩ : ∃ t, archS k0 k1 k2 k3 [] [] = t := ⟨_, rfl⟩
  rw [hAR] at HR0 HSZ0 HFW0 HKT0 HAT0 ⊢
  rw [hT] at HKT0 HAT0
  have HKT := HKT0
  have HAT := HAT0
  have HSZ := HSZ0
  have HFW := HFW0
  have HIF : Hid (∀ s, (ifsT T s).length ≤ 1000) := Lib.hid (fun s => by rw [← HAT.out]; exact Nat.le_trans (HSZ.out.ifs s).1 (by omega))
  have HLE : Hid (AR.length ≤ 1000) := Lib.hid (by have := HSZ.out.1; rwa [List.length_map] at this)
  obtain ⟨wz, hwz⟩ : ∃ x, x = w2.alloc (.cells #[.slice p1 AR.length c1'] 29) := ⟨_, rfl⟩
  have hbz := below_alR w2 (.cells #[.slice p1 AR.length c1'] 29)
  have HZ : Hid (wz.heap[w2.heap.size]? = some (.cells #[.slice p1 AR.length c1'] 29 (0, 0))) := Lib.hid (by rw [hwz]; exact heap_alloc_new _ _)
  rw [← hwz] at hbz ⊢
  have HR := Lib.hid (HR0.out.any cP.grow hbz)
  replace HA := Lib.hid (bx_below HA.out hbz)
  replace HC := Lib.hid (bx_below HC.out hbz)
  have HB := Lib.hid (HB2.out.trans (hbz.mono HB2.out.size))
  have HBZ : Hid (Below wz.heap.size wz wz.drew) := Lib.hid (Below.refl wz.heap.size wz).drew
  obtain ⟨gz, hgz⟩ : ∃ z, w2.heap.size = z := ⟨_, rfl⟩
  rw [hgz] at HZ ⊢
  replace HZ : Hid (wz.drew.heap[gz]? = _) := Lib.hid HZ.out
  clear hbz hwz hgz hT hAR HR0 HR1 HSZ0 HFW0 HKT0 HAT0 HB2
  go_cut [18, 19] from 58 to 62 (fun s18 s19 wx => ∃ (tb rb : Nat) (ok1 ok2 : Nat → Prop) (K : List Cls), s18 = .pointer (some ⟨tb, 0, none⟩) ∧ s19 = .pointer (some ⟨rb, 0, none⟩) ∧ Hid (TwoW wx ok1 ok2 (.pointer (some ⟨tb, 0, none⟩)) K rb p1 c1' AR T) ∧ Hid (Below wz.heap.size wz wx))
  refine wp_region_held_drew (S := fun W => gz < W.heap.size ∧ W.cell? ⟨gz, 0, none⟩ = some (.slice p1 AR.length c1')) (by kernel_rfl) (c1_at HZ.out) (fun hHeld => ?_)
  refine wpAnyH_take (i := 0) (oi := _) (v := ?_) (by simp only [List.getElem?_toArray, List.getElem?_cons_zero]; rfl) (by kernel_rfl) (by kernel_rfl) (by kernel_rfl) (by intro _ _ _ h; exact h) (Or.inl ⟨by rfl, fun W hSw => ?_⟩) hHeld ?_
  rotate_left 1
  · (try dsimp only at hSw); first | (go_simp; done) | (go_simp; with_reducible rfl)
  try go_frame
  refine wpAnyH_take (i := 2) (oi := _) (v := ?_) (by simp only [List.getElem?_toArray, List.getElem?_cons_succ, List.getElem?_cons_zero]; rfl) (by kernel_rfl) (by kernel_rfl) (by kernel_rfl) (by intro _ _ _ h; exact h) (Or.inl ⟨by rfl, fun W hSw => ?_⟩) hHeld ?_
  rotate_left 1
  · (try dsimp only at hSw); first | (go_simp; done) | (go_simp; with_reducible rfl)
  try go_frame
  refine wpAnyH_take (i := 3) (oi := _) (v := ?_) (by simp only [List.getElem?_toArray, List.getElem?_cons_succ, List.getElem?_cons_zero]; rfl) (by kernel_rfl) (by kernel_rfl) (by kernel_rfl) (by intro _ _ _ h; exact h) (Or.inl ⟨by rfl, fun W hSw => ?_⟩) hHeld ?_
  rotate_left 1
  · (clear hSw; first | (go_simp; done) | (go_simp; with_reducible rfl))
  try go_frame
  refine wpAnyH_ready (rs := [1, 4]) (by kernel_rfl) (by simp) ?_
  refine AllReadyH.cons (o := _) (by simp only [List.getElem?_toArray, List.getElem?_cons_succ, List.getElem?_cons_zero]; rfl) (fun KX hKX => ?_) ?_
  · clear hHeld
    go_simp
    refine (New_t AR p1 c1' _ _ (HR.out.any cP.grow HBZ.out) HSZ.out HFW.out).mono ?_
    rintro e wn ⟨tb, mb, vs, rfl, ht, hbn⟩
    replace HZ := Lib.hid (blk_below HZ.out hbn)
    replace HBZ := Lib.hid (HBZ.out.trans (hbn.mono HBZ.out.size))
    have HTR := Lib.hid ht
    clear hbn ht
    refine hKX.out _ _ (c1_at HZ.out) (fun hHeld => ?_)
    clear hKX KX
    try go_frame
    refine wpAnyH_take (i := 5) (oi := _) (v := ?_) (by simp only [List.getElem?_toArray, List.getElem?_cons_succ, List.getElem?_cons_zero]; rfl) (by kernel_rfl) (by kernel_rfl) (by kernel_rfl) (by intro _ _ _ h; exact h) (Or.inl ⟨by rfl, fun W hSw => ?_⟩) hHeld ?_
    rotate_left 1
    · (clear hSw; first | (go_simp; done) | (go_simp; with_reducible rfl))
    try go_frame
    refine wpAnyH_ready (rs := [4]) (by kernel_rfl) (by simp) ?_
    refine AllReadyH.cons (o := _) (by simp only [List.getElem?_toArray, List.getElem?_cons_succ, List.getElem?_cons_zero]; rfl) (fun KX hKX => ?_) AllReadyH.nil
    clear hHeld
    go_simp
    have hbn := below_alR wn (.cells #[.slice p1 AR.length c1'] 35)
    have HRB := Lib.hid (heap_alloc_new wn (.cells #[.slice p1 AR.length c1'] 35))
    replace HZ := Lib.hid (blk_below HZ.out hbn)
    replace HBZ := Lib.hid (HBZ.out.trans (hbn.mono HBZ.out.size))
    replace HTR := Lib.hid (HTR.out.below hbn)
    clear hbn
    refine hKX.out _ _ (c1_at HZ.out) (fun hHeld => ?_)
    clear hKX KX
    try go_frame
    refine wpAnyH_take (i := 6) (oi := _) (v := ?_) (by simp only [List.getElem?_toArray, List.getElem?_cons_succ, List.getElem?_cons_zero]; rfl) (by kernel_rfl) (by kernel_rfl) (by kernel_rfl) (by intro _ _ _ h; exact h) (Or.inl ⟨by rfl, fun W hSw => ?_⟩) hHeld ?_
    rotate_left 1
    · (clear hSw; first | (go_simp; done) | (go_simp; with_reducible rfl))
    try go_frame
    refine wpAnyH_done (by kernel_rfl) ?_ _
    clear hHeld
    go_wp2_with fail
    go_meet
    case rel => exact ⟨tb, _, _, _, _, rfl, rfl, Lib.hid ⟨.inl ⟨tb, mb, vs, rfl, HTR.out⟩, ⟨HRB.out, HR.out.any cP.grow HBZ.out, HLE.out⟩, HKT.out, HAT.out, HIF.out⟩, HBZ⟩
  refine AllReadyH.cons (o := _) (by simp only [List.getElem?_toArray, List.getElem?_cons_succ, List.getElem?_cons_zero]; rfl) (fun KX hKX => ?_) AllReadyH.nil
  clear hHeld
  go_simp
  have hbn := below_alR wz.drew (.cells #[.slice p1 AR.length c1'] 35)
  have HRB := Lib.hid (heap_alloc_new wz.drew (.cells #[.slice p1 AR.length c1'] 35))
  replace HZ := Lib.hid (blk_below HZ.out hbn)
  replace HBZ := Lib.hid (HBZ.out.trans (hbn.mono HBZ.out.size))
  clear hbn
  refine hKX.out _ _ (c1_at HZ.out) (fun hHeld => ?_)
  clear hKX KX
  try go_frame
  refine wpAnyH_ready (rs := [1]) (by kernel_rfl) (by simp) ?_
  refine AllReadyH.cons (o := _) (by simp only [List.getElem?_toArray, List.getElem?_cons_succ, List.getElem?_cons_zero]; rfl) (fun KX hKX => ?_) AllReadyH.nil
  clear hHeld
  go_simp
  refine (New_t AR p1 c1' _ _ (HR.out.any cP.grow HBZ.out) HSZ.out HFW.out).mono ?_
  rintro e wn ⟨tb, mb, vs, rfl, ht, hbn⟩
  replace HZ := Lib.hid (blk_below HZ.out hbn)
  replace HBZ := Lib.hid (HBZ.out.trans (hbn.mono HBZ.out.size))
  have HTR := Lib.hid ht
  replace HRB := Lib.hid (blk_below HRB.out hbn)
  clear hbn ht
  refine hKX.out _ _ (c1_at HZ.out) (fun hHeld => ?_)
  clear hKX KX
  try go_frame
  refine wpAnyH_take (i := 5) (oi := _) (v := ?_) (by simp only [List.getElem?_toArray, List.getElem?_cons_succ, List.getElem?_cons_zero]; rfl) (by kernel_rfl) (by kernel_rfl) (by kernel_rfl) (by intro _ _ _ h; exact h) (Or.inl ⟨by rfl, fun W hSw => ?_⟩) hHeld ?_
  rotate_left 1
  · (clear hSw; first | (go_simp; done) | (go_simp; with_reducible rfl))
  try go_frame
  refine wpAnyH_take (i := 6) (oi := _) (v := ?_) (by simp only [List.getElem?_toArray, List.getElem?_cons_succ, List.getElem?_cons_zero]; rfl) (by kernel_rfl) (by kernel_rfl) (by kernel_rfl) (by intro _ _ _ h; exact h) (Or.inl ⟨by rfl, fun W hSw => ?_⟩) hHeld ?_
  rotate_left 1
  · (clear hSw; first | (go_simp; done) | (go_simp; with_reducible rfl))
  try go_frame
  refine wpAnyH_done (by kernel_rfl) ?_ _
  clear hHeld
  go_wp2_with fail
  go_meet
  case rel => exact ⟨tb, _, _, _, _, rfl, rfl, Lib.hid ⟨.inl ⟨tb, mb, vs, rfl, HTR.out⟩, ⟨HRB.out, HR.out.any cP.grow HBZ.out, HLE.out⟩, HKT.out, HAT.out, HIF.out⟩, HBZ⟩
  case rest =>
    obtain ⟨tb, rb, ok1, ok2, K, rfl, rfl, HT, hbz⟩ := hcut
    replace HA := Lib.hid (bx_below HA.out hbz.out)
    replace HC := Lib.hid (bx_below HC.out hbz.out)
    replace HB := Lib.hid (HB.out.trans (hbz.out.mono HB.out.size))
    clear hbz HR HZ HBZ HKT HAT HSZ HFW HIF HLE
    obtain ⟨u, hu⟩ : ∃ z, ofJ x s = z := ⟨_, rfl⟩
    obtain ⟨v, hv⟩ : ∃ z, ofJ y s = z := ⟨_, rfl⟩
    have hm200 : 200 ≤ maxLen := by unfold maxLen; omega
    have ZU : Hid (u.2.size ≤ maxLen) := Lib.hid (by rw [← hu]; exact Nat.le_trans (of_sz (by omega) HZS.out.1) hm200)
    have ZV : Hid (v.2.size ≤ maxLen) := Lib.hid (by rw [← hv]; exact Nat.le_trans (of_sz (by omega) HZS.out.1) hm200)
    have ZA : Hid (sa.size ≤ maxLen) := Lib.hid (Nat.le_trans HZS.out.2.1 hm200)
    have ZB : Hid (sb.size ≤ maxLen) := Lib.hid (Nat.le_trans HZS.out.2.2 hm200)
    have HU := Lib.hid hu
    have HV := Lib.hid hv
    clear hu hv hm200
    go_upto_region 7 with fail
    replace HA : Hid (wc.drew.heap[kb + 1]? = _) := Lib.hid HA.out
    replace HC : Hid (wc.drew.heap[kb + 2]? = _) := Lib.hid HC.out
    replace HT := Lib.hid (HT.out.below (Below.refl wc.heap.size wc).drew)
    replace HB := Lib.hid HB.out.drew
    refine wp_region_held_drew (S := fun W => kb + 1 < W.heap.size ∧ W.cell? ⟨kb + 1, 0, none⟩ = some (.int .i64 ak) ∧ W.cell? ⟨kb + 1, 1, none⟩ = some (.string sa)) (by kernel_rfl) (c2_at HA.out) (fun hHeld => ?_)
    refine wpAnyH_take (i := 0) (oi := _) (v := ?_) (by simp only [List.getElem?_toArray, List.getElem?_cons_zero]; rfl) (by kernel_rfl) (by kernel_rfl) (by kernel_rfl) (by intro _ _ _ h; exact h) (Or.inl ⟨by rfl, fun W hSw => ?_⟩) hHeld ?_
    rotate_left 1
    · (clear hSw; first | (go_simp; done) | (go_simp; with_reducible rfl))
    try go_frame
    refine wpAnyH_take (i := 1) (oi := _) (v := ?_) (by simp only [List.getElem?_toArray, List.getElem?_cons_succ, List.getElem?_cons_zero]; rfl) (by kernel_rfl) (by kernel_rfl) (by kernel_rfl) (by intro _ _ _ h; exact h) (Or.inl ⟨by rfl, fun W hSw => ?_⟩) hHeld ?_
    rotate_left 1
    · (clear hSw; first | (go_simp; done) | (go_simp; with_reducible rfl))
    try go_frame
    refine wpAnyH_take (i := 3) (oi := _) (v := ?_) (by simp only [List.getElem?_toArray, List.getElem?_cons_succ, List.getElem?_cons_zero]; rfl) (by kernel_rfl) (by kernel_rfl) (by kernel_rfl) (by intro _ _ _ h; exact h) (Or.inl ⟨by rfl, fun W hSw => ?_⟩) hHeld ?_
    rotate_left 1
    · (try dsimp only at hSw); first | (go_simp; done) | (go_simp; with_reducible rfl)
    try go_frame
    refine wpAnyH_take (i := 6) (oi := _) (v := ?_) (by simp only [List.getElem?_toArray, List.getElem?_cons_succ, List.getElem?_cons_zero]; rfl) (by kernel_rfl) (by kernel_rfl) (by kernel_rfl) (by intro _ _ _ h; exact h) (Or.inl ⟨by rfl, fun W hSw => ?_⟩) hHeld ?_
    rotate_left 1
    · (clear hSw; first | (go_simp; done) | (go_simp; with_reducible rfl))
    try go_frame
    refine wpAnyH_ready (rs := [2]) (by kernel_rfl) (by simp) ?_
    refine AllReadyH.cons (o := _) (by simp only [List.getElem?_toArray, List.getElem?_cons_succ, List.getElem?_cons_zero]; rfl) (fun KX hKX => ?_) AllReadyH.nil
    clear hHeld
    go_simp
    refine (of_y x s _ hx).mono ?_
    rw [HU.out, tyv_eta]
    rintro e wa ⟨rfl, hbn⟩
    replace HA := Lib.hid (bx_below HA.out hbn)
    replace HC := Lib.hid (bx_below HC.out hbn)
    replace HT := Lib.hid (HT.out.below hbn)
    replace HB := Lib.hid (HB.out.trans (hbn.mono HB.out.size))
    clear hbn
    refine hKX.out _ _ (c2_at HA.out) (fun hHeld => ?_)
    clear hKX KX
    try go_frame
    refine wpAnyH_ready (rs := [4]) (by kernel_rfl) (by simp) ?_
    refine AllReadyH.cons (o := _) (by simp only [List.getElem?_toArray, List.getElem?_cons_succ, List.getElem?_cons_zero]; rfl) (fun KX hKX => ?_) AllReadyH.nil
    clear hHeld
    go_simp
    have HPX := Lib.hid (rdX_lits (sz := 2) (c := tyC) (fun _ => rfl) wa [u, (ak, sa)] #[.int .i64 u.1, .string u.2, .int .i64 ak, .string sa] 24 rfl)
    have hbn := below_alR wa (.cells #[.int .i64 u.1, .string u.2, .int .i64 ak, .string sa] 24)
    replace HA := Lib.hid (bx_below HA.out hbn)
    replace HC := Lib.hid (bx_below HC.out hbn)
    replace HT := Lib.hid (HT.out.below hbn)
    replace HB := Lib.hid (HB.out.trans (hbn.mono HB.out.size))
    clear hbn
    obtain ⟨wP, hwP⟩ : ∃ z, z = wa.alloc (.cells #[.int .i64 u.1, .string u.2, .int .i64 ak, .string sa] 24) := ⟨_, rfl⟩
    have hgp : ∃ z, wa.heap.size = z := ⟨_, rfl⟩
    refine hKX.out _ _ (c2_at HA.out) (fun hHeld => ?_)
    clear hKX KX
    try go_frame
    refine wpAnyH_take (i := 5) (oi := _) (v := ?_) (by simp only [List.getElem?_toArray, List.getElem?_cons_succ, List.getElem?_cons_zero]; rfl) (by kernel_rfl) (by kernel_rfl) (by kernel_rfl) (by intro _ _ _ h; exact h) (Or.inl ⟨by rfl, fun W hSw => ?_⟩) hHeld ?_
    rotate_left 1
    · (clear hSw; first | (go_simp; done) | (go_simp; with_reducible rfl))
    try go_frame
    refine wpAnyH_done (by kernel_rfl) ?_ _
    clear hHeld
    replace HPX : Hid (RdX 2 (sP tyC) anyB wP (.slice (some ⟨wa.heap.size, 0, none⟩) 2 2) [u, (ak, sa)]) := Lib.hid (by rw [hwP]; exact HPX.out)
    rw [← hwP] at HA HC HT HB ⊢
    clear hwP hgp
    obtain ⟨gP, hgP⟩ : ∃ z, wa.heap.size = z := ⟨_, rfl⟩
    rw [hgP] at HPX ⊢
    clear hgP
    have HPP := HPX
    clear HPX
    have HBP : Hid (Below wP.heap.size wP wP) := Lib.hid (Below.refl _ _)
    go_wp2_with fail
    go_loopw [69] (fun v69 wr => ∃ i : Nat, v69 = .int .i64 (i : Int) ∧ i ≤ 2 ∧ Hid (Below wP.heap.size wP wr)) (fun x _ => 2 - (intOf x).toNat)
    case atStart => exact ⟨0, rfl, by omega, HBP⟩
    case round =>
      clear HBP
      obtain ⟨i, rfl, hin, HBP⟩ := hrel
      by_cases hlt : i < 2
      · have hlt' : (i : Int) < 2 := by omega
        obtain ⟨p, hp⟩ : ∃ p, ([u, (ak, sa)] : List Ty)[i]? = some p := ⟨_, List.getElem?_eq_getElem (by simp; omega)⟩
        have zp : Hid (p.2.size ≤ maxLen) := Lib.hid (by
          rcases (by omega : i = 0 ∨ i = 1) with rfl | rfl
          · cases hp; exact ZU.out
          · cases hp; exact ZA.out)
        have hc := (cells_fix (HPP.out.any (sP.grow _) HBP.out) hp).two
        simp only [Nat.zero_add] at hc
        obtain ⟨p0, p1'⟩ := hc
        clear hp
        go_upto_region 10 with fail
        clear p0 p1'
        have hbn := below_alR wr (.cells #[.int .i64 p.1, .string p.2] 24)
        have HP1 := Lib.hid (heap_alloc_new wr (.cells #[.int .i64 p.1, .string p.2] 24))
        obtain ⟨wv, hwv⟩ : ∃ z, z = wr.alloc (.cells #[.int .i64 p.1, .string p.2] 24) := ⟨_, rfl⟩
        obtain ⟨gp, hgp⟩ : ∃ z, wr.heap.size = z := ⟨_, rfl⟩
        rw [← hwv] at hbn HP1 ⊢
        have hb2 := (HBP.out.trans (hbn.mono HBP.out.size)).drew
        replace HA := Lib.hid (bx_below HA.out hb2)
        replace HC := Lib.hid (bx_below HC.out hb2)
        replace HT := Lib.hid (HT.out.below hb2)
        replace HB := Lib.hid (HB.out.trans (hb2.mono HB.out.size))
        replace HBP := Lib.hid hb2
        replace HP1 : Hid (wv.drew.heap[gp]? = some (.cells #[.int .i64 p.1, .string p.2] 24 (0, 0))) := Lib.hid (by rw [← hgp]; exact HP1.out)
        rw [hgp]
        clear hbn hb2 hwv hgp
        refine wp_region_held_drew (S := fun W => kb + 2 < W.heap.size ∧ W.cell? ⟨kb + 2, 0, none⟩ = some (.int .i64 bk) ∧ W.cell? ⟨kb + 2, 1, none⟩ = some (.string sb)) (by kernel_rfl) (c2_at HC.out) (fun hHeld => ?_)
        refine wpAnyH_take (i := 0) (oi := _) (v := ?_) (by simp only [List.getElem?_toArray, List.getElem?_cons_zero]; rfl) (by kernel_rfl) (by kernel_rfl) (by kernel_rfl) (by intro _ _ _ h; exact h) (Or.inl ⟨by rfl, fun W hSw => ?_⟩) hHeld ?_
        rotate_left 1
        · (clear hSw; first | (go_simp; done) | (go_simp; with_reducible rfl))
        try go_frame
        refine wpAnyH_take (i := 1) (oi := _) (v := ?_) (by simp only [List.getElem?_toArray, List.getElem?_cons_succ, List.getElem?_cons_zero]; rfl) (by kernel_rfl) (by kernel_rfl) (by kernel_rfl) (by intro _ _ _ h; exact h) (Or.inl ⟨by rfl, fun W hSw => ?_⟩) hHeld ?_
        rotate_left 1
        · (clear hSw; first | (go_simp; done) | (go_simp; with_reducible rfl))
        try go_frame
        refine wpAnyH_take (i := 3) (oi := _) (v := ?_) (by simp only [List.getElem?_toArray, List.getElem?_cons_succ, List.getElem?_cons_zero]; rfl) (by kernel_rfl) (by kernel_rfl) (by kernel_rfl) (by intro _ _ _ h; exact h) (Or.inl ⟨by rfl, fun W hSw => ?_⟩) hHeld ?_
        rotate_left 1
        · (try dsimp only at hSw); first | (go_simp; done) | (go_simp; with_reducible rfl)
        try go_frame
        refine wpAnyH_take (i := 6) (oi := _) (v := ?_) (by simp only [List.getElem?_toArray, List.getElem?_cons_succ, List.getElem?_cons_zero]; rfl) (by kernel_rfl) (by kernel_rfl) (by kernel_rfl) (by intro _ _ _ h; exact h) (Or.inl ⟨by rfl, fun W hSw => ?_⟩) hHeld ?_
        rotate_left 1
        · (clear hSw; first | (go_simp; done) | (go_simp; with_reducible rfl))
        try go_frame
        refine wpAnyH_ready (rs := [2]) (by kernel_rfl) (by simp) ?_
        refine AllReadyH.cons (o := _) (by simp only [List.getElem?_toArray, List.getElem?_cons_succ, List.getElem?_cons_zero]; rfl) (fun KX hKX => ?_) AllReadyH.nil
        clear hHeld
        go_simp
        refine (of_y y s _ hy).mono ?_
        rw [HV.out, tyv_eta]
        rintro e wa ⟨rfl, hbn⟩
        replace HA := Lib.hid (bx_below HA.out hbn)
        replace HC := Lib.hid (bx_below HC.out hbn)
        replace HT := Lib.hid (HT.out.below hbn)
        replace HB := Lib.hid (HB.out.trans (hbn.mono HB.out.size))
        replace HP1 := Lib.hid (bx_below HP1.out hbn)
        replace HBP := Lib.hid (HBP.out.trans (hbn.mono HBP.out.size))
        clear hbn
        refine hKX.out _ _ (c2_at HC.out) (fun hHeld => ?_)
        clear hKX KX
        try go_frame
        refine wpAnyH_ready (rs := [4]) (by kernel_rfl) (by simp) ?_
        refine AllReadyH.cons (o := _) (by simp only [List.getElem?_toArray, List.getElem?_cons_succ, List.getElem?_cons_zero]; rfl) (fun KX hKX => ?_) AllReadyH.nil
        clear hHeld
        go_simp
        have HPX := Lib.hid (rdX_lits (sz := 2) (c := tyC) (fun _ => rfl) wa [v, (bk, sb)] #[.int .i64 v.1, .string v.2, .int .i64 bk, .string sb] 24 rfl)
        have hbn := below_alR wa (.cells #[.int .i64 v.1, .string v.2, .int .i64 bk, .string sb] 24)
        replace HA := Lib.hid (bx_below HA.out hbn)
        replace HC := Lib.hid (bx_below HC.out hbn)
        replace HT := Lib.hid (HT.out.below hbn)
        replace HB := Lib.hid (HB.out.trans (hbn.mono HB.out.size))
        replace HP1 := Lib.hid (bx_below HP1.out hbn)
        replace HBP := Lib.hid (HBP.out.trans (hbn.mono HBP.out.size))
        clear hbn
        obtain ⟨wQ, hwQ⟩ : ∃ z, z = wa.alloc (.cells #[.int .i64 v.1, .string v.2, .int .i64 bk, .string sb] 24) := ⟨_, rfl⟩
        have hgp : ∃ z, wa.heap.size = z := ⟨_, rfl⟩
        refine hKX.out _ _ (c2_at HC.out) (fun hHeld => ?_)
        clear hKX KX
        try go_frame
        refine wpAnyH_take (i := 5) (oi := _) (v := ?_) (by simp only [List.getElem?_toArray, List.getElem?_cons_succ, List.getElem?_cons_zero]; rfl) (by kernel_rfl) (by kernel_rfl) (by kernel_rfl) (by intro _ _ _ h; exact h) (Or.inl ⟨by rfl, fun W hSw => ?_⟩) hHeld ?_
        rotate_left 1
        · (clear hSw; first | (go_simp; done) | (go_simp; with_reducible rfl))
        try go_frame
        refine wpAnyH_done (by kernel_rfl) ?_ _
        clear hHeld
        have HQX : Hid (RdX 2 (sP tyC) anyB wQ (.slice (some ⟨wa.heap.size, 0, none⟩) 2 2) [v, (bk, sb)]) := Lib.hid (by rw [hwQ]; exact HPX.out)
        rw [← hwQ] at HA HC HT HB HBP HP1 ⊢
        clear hwQ HPX hgp
        obtain ⟨gQ, hgQ⟩ : ∃ z, wa.heap.size = z := ⟨_, rfl⟩
        rw [hgQ] at HQX ⊢
        clear hgQ
        have HBJ : Hid (Below wQ.heap.size wQ wQ) := Lib.hid (Below.refl _ _)
        go_wp2_with fail
        go_loopw [79] (fun v79 wr => ∃ j : Nat, v79 = .int .i64 (j : Int) ∧ j ≤ 2 ∧ Hid (Below wQ.heap.size wQ wr)) (fun x _ => 2 - (intOf x).toNat)
        case atStart => exact ⟨0, rfl, by omega, HBJ⟩
        case round =>
          clear HBJ
          obtain ⟨j, rfl, hjn, HBJ⟩ := hrel
          by_cases hltj : j < 2
          · have hltj' : (j : Int) < 2 := by omega
            obtain ⟨q, hq⟩ : ∃ q, ([v, (bk, sb)] : List Ty)[j]? = some q := ⟨_, List.getElem?_eq_getElem (by simp; omega)⟩
            have zq : Hid (q.2.size ≤ maxLen) := Lib.hid (by
              rcases (by omega : j = 0 ∨ j = 1) with rfl | rfl
              · cases hq; exact ZV.out
              · cases hq; exact ZB.out)
            have hc := (cells_fix (HQX.out.any (sP.grow _) HBJ.out) hq).two
            simp only [Nat.zero_add] at hc
            obtain ⟨q0, q1⟩ := hc
            obtain ⟨jj, hj⟩ : ∃ z, joinT T (p.1, p.2) (q.1, q.2) = z := ⟨_, rfl⟩
            obtain ⟨ff, hf⟩ : ∃ z, fitsT T (p.1, p.2) (q.1, q.2) = z := ⟨_, rfl⟩
            obtain ⟨ee, he⟩ : ∃ z, refB (p.1, p.2) = z := ⟨_, rfl⟩
            have HJ := Lib.hid hj
            have HF := Lib.hid hf
            have HE := Lib.hid he
            replace HP1 := Lib.hid (bx_below HP1.out HBJ.out)
            replace HT := Lib.hid (HT.out.below HBJ.out)
            clear hj hf he hq
            go_upto_region 13 with fail
            clear q0 q1
            have hbn := below_alR wr (.cells #[.int .i64 q.1, .string q.2] 24)
            have HQ1 := Lib.hid (heap_alloc_new wr (.cells #[.int .i64 q.1, .string q.2] 24))
            obtain ⟨wv, hwv⟩ : ∃ z, z = wr.alloc (.cells #[.int .i64 q.1, .string q.2] 24) := ⟨_, rfl⟩
            obtain ⟨gq, hgq⟩ : ∃ z, wr.heap.size = z := ⟨_, rfl⟩
            rw [← hwv] at hbn HQ1 ⊢
            replace HP1 : Hid (wv.drew.heap[gp]? = _) := Lib.hid (show wv.heap[gp]? = _ from bx_below HP1.out hbn)
            replace HT := Lib.hid ((HT.out.below hbn).below (Below.refl wv.heap.size wv).drew)
            replace HBJ := Lib.hid (HBJ.out.trans (hbn.mono HBJ.out.size)).drew
            replace HQ1 : Hid (wv.drew.heap[gq]? = some (.cells #[.int .i64 q.1, .string q.2] 24 (0, 0))) := Lib.hid (by rw [← hgq]; exact HQ1.out)
            rw [hgq]
            clear hbn hwv hgq
            refine wp_region_held_drew (S := fun W => (gp < W.heap.size ∧ W.cell? ⟨gp, 0, none⟩ = some (.int .i64 p.1) ∧ W.cell? ⟨gp, 1, none⟩ = some (.string p.2)) ∧ (gq < W.heap.size ∧ W.cell? ⟨gq, 0, none⟩ = some (.int .i64 q.1) ∧ W.cell? ⟨gq, 1, none⟩ = some (.string q.2))) (by kernel_rfl) ⟨c2_at HP1.out, c2_at HQ1.out⟩ (fun hHeld => ?_)
            refine wpAnyH_take (i := 0) (oi := _) (v := ?_) (by simp only [List.getElem?_toArray, List.getElem?_cons_zero]; rfl) (by kernel_rfl) (by kernel_rfl) (by kernel_rfl) (by intro _ _ _ h; exact h) (Or.inl ⟨by rfl, fun W hSw => ?_⟩) hHeld ?_
            rotate_left 1
            · (clear hSw; first | (go_simp; done) | (go_simp; with_reducible rfl))
            try go_frame
            refine wpAnyH_take (i := 1) (oi := _) (v := ?_) (by simp only [List.getElem?_toArray, List.getElem?_cons_succ, List.getElem?_cons_zero]; rfl) (by kernel_rfl) (by kernel_rfl) (by kernel_rfl) (by intro _ _ _ h; exact h) (Or.inl ⟨by rfl, fun W hSw => ?_⟩) hHeld ?_
            rotate_left 1
            · (try dsimp only at hSw); first | (go_simp; done) | (go_simp; with_reducible rfl)
            try go_frame
            refine wpAnyH_take (i := 2) (oi := _) (v := ?_) (by simp only [List.getElem?_toArray, List.getElem?_cons_succ, List.getElem?_cons_zero]; rfl) (by kernel_rfl) (by kernel_rfl) (by kernel_rfl) (by intro _ _ _ h; exact h) (Or.inl ⟨by rfl, fun W hSw => ?_⟩) hHeld ?_
            rotate_left 1
            · (try dsimp only at hSw); first | (go_simp; done) | (go_simp; with_reducible rfl)
            try go_frame
            refine wpAnyH_take (i := 4) (oi := _) (v := ?_) (by simp only [List.getElem?_toArray, List.getElem?_cons_succ, List.getElem?_cons_zero]; rfl) (by kernel_rfl) (by kernel_rfl) (by kernel_rfl) (by intro _ _ _ h; exact h) (Or.inl ⟨by rfl, fun W hSw => ?_⟩) hHeld ?_
            rotate_left 1
            · (clear hSw; first | (go_simp; done) | (go_simp; with_reducible rfl))
            try go_frame
            refine wpAnyH_take (i := 5) (oi := _) (v := ?_) (by simp only [List.getElem?_toArray, List.getElem?_cons_succ, List.getElem?_cons_zero]; rfl) (by kernel_rfl) (by kernel_rfl) (by kernel_rfl) (by intro _ _ _ h; exact h) (Or.inl ⟨by rfl, fun W hSw => ?_⟩) hHeld ?_
            rotate_left 1
            · (try dsimp only at hSw); first | (go_simp; done) | (go_simp; with_reducible rfl)
            try go_frame
            refine wpAnyH_take (i := 6) (oi := _) (v := ?_) (by simp only [List.getElem?_toArray, List.getElem?_cons_succ, List.getElem?_cons_zero]; rfl) (by kernel_rfl) (by kernel_rfl) (by kernel_rfl) (by intro _ _ _ h; exact h) (Or.inl ⟨by rfl, fun W hSw => ?_⟩) hHeld ?_
            rotate_left 1
            · (try dsimp only at hSw); first | (go_simp; done) | (go_simp; with_reducible rfl)
            try go_frame
            refine wpAnyH_ready (rs := [3]) (by kernel_rfl) (by simp) ?_
            refine AllReadyH.cons (o := _) (by simp only [List.getElem?_toArray, List.getElem?_cons_succ, List.getElem?_cons_zero]; rfl) (fun KX hKX => ?_) AllReadyH.nil
            clear hHeld
            go_simp
            refine (HT.out.join zp.out zq.out).mono ?_
            rw [HJ.out, tyv_eta]
            rintro e wn ⟨rfl, hbn⟩
            replace HP1 := Lib.hid (bx_below HP1.out hbn)
            replace HQ1 := Lib.hid (bx_below HQ1.out hbn)
            replace HT := Lib.hid (HT.out.below hbn)
            replace HBJ := Lib.hid (HBJ.out.trans (hbn.mono HBJ.out.size))
            clear hbn
            refine hKX.out _ _ ⟨c2_at HP1.out, c2_at HQ1.out⟩ (fun hHeld => ?_)
            clear hKX KX
            try go_frame
            refine wpAnyH_ready (rs := [7]) (by kernel_rfl) (by simp) ?_
            refine AllReadyH.cons (o := _) (by simp only [List.getElem?_toArray, List.getElem?_cons_succ, List.getElem?_cons_zero]; rfl) (fun KX hKX => ?_) AllReadyH.nil
            clear hHeld
            go_simp
            refine HT.out.rjoin.mono ?_
            rw [HJ.out, tyv_eta]
            rintro e wn ⟨rfl, hbn⟩
            replace HP1 := Lib.hid (bx_below HP1.out hbn)
            replace HQ1 := Lib.hid (bx_below HQ1.out hbn)
            replace HT := Lib.hid (HT.out.below hbn)
            replace HBJ := Lib.hid (HBJ.out.trans (hbn.mono HBJ.out.size))
            clear hbn
            refine hKX.out _ _ ⟨c2_at HP1.out, c2_at HQ1.out⟩ (fun hHeld => ?_)
            clear hKX KX
            try go_frame
            refine wpAnyH_take (i := 8) (oi := _) (v := ?_) (by simp only [List.getElem?_toArray, List.getElem?_cons_succ, List.getElem?_cons_zero]; rfl) (by kernel_rfl) (by kernel_rfl) (by kernel_rfl) (by intro _ _ _ h; exact h) (Or.inl ⟨by rfl, fun W hSw => ?_⟩) hHeld ?_
            rotate_left 1
            · (clear hSw; first | (go_simp; done) | (go_simp; with_reducible rfl))
            try go_frame
            refine wpAnyH_take (i := 9) (oi := _) (v := ?_) (by simp only [List.getElem?_toArray, List.getElem?_cons_succ, List.getElem?_cons_zero]; rfl) (by kernel_rfl) (by kernel_rfl) (by kernel_rfl) (by intro _ _ _ h; exact h) (Or.inl ⟨by rfl, fun W hSw => ?_⟩) hHeld ?_
            rotate_left 1
            · (clear hSw; first | (go_simp; done) | (go_simp; with_reducible rfl))
            try go_frame
            refine wpAnyH_take (i := 10) (oi := _) (v := ?_) (by simp only [List.getElem?_toArray, List.getElem?_cons_succ, List.getElem?_cons_zero]; rfl) (by kernel_rfl) (by kernel_rfl) (by kernel_rfl) (by intro _ _ _ h; exact h) (Or.inl ⟨by rfl, fun W hSw => ?_⟩) hHeld ?_
            rotate_left 1
            · (clear hSw; first | (go_simp; done) | (go_simp; with_reducible rfl))
            try go_frame
            refine wpAnyH_take (i := 11) (oi := _) (v := ?_) (by simp only [List.getElem?_toArray, List.getElem?_cons_succ, List.getElem?_cons_zero]; rfl) (by kernel_rfl) (by kernel_rfl) (by kernel_rfl) (by intro _ _ _ h; exact h) (Or.inl ⟨by rfl, fun W hSw => ?_⟩) hHeld ?_
            rotate_left 1
            · (try dsimp only at hSw); first | (go_simp; done) | (go_simp; with_reducible rfl)
            try go_frame
            refine wpAnyH_take (i := 12) (oi := _) (v := ?_) (by simp only [List.getElem?_toArray, List.getElem?_cons_succ, List.getElem?_cons_zero]; rfl) (by kernel_rfl) (by kernel_rfl) (by kernel_rfl) (by intro _ _ _ h; exact h) (Or.inl ⟨by rfl, fun W hSw => ?_⟩) hHeld ?_
            rotate_left 1
            · (try dsimp only at hSw); first | (go_simp; done) | (go_simp; with_reducible rfl)
            try go_frame
            refine wpAnyH_take (i := 14) (oi := _) (v := ?_) (by simp only [List.getElem?_toArray, List.getElem?_cons_succ, List.getElem?_cons_zero]; rfl) (by kernel_rfl) (by kernel_rfl) (by kernel_rfl) (by intro _ _ _ h; exact h) (Or.inl ⟨by rfl, fun W hSw => ?_⟩) hHeld ?_
            rotate_left 1
            · (clear hSw; first | (go_simp; done) | (go_simp; with_reducible rfl))
            try go_frame
            refine wpAnyH_take (i := 15) (oi := _) (v := ?_) (by simp only [List.getElem?_toArray, List.getElem?_cons_succ, List.getElem?_cons_zero]; rfl) (by kernel_rfl) (by kernel_rfl) (by kernel_rfl) (by intro _ _ _ h; exact h) (Or.inl ⟨by rfl, fun W hSw => ?_⟩) hHeld ?_
            rotate_left 1
            · (try dsimp only at hSw); first | (go_simp; done) | (go_simp; with_reducible rfl)
            try go_frame
            refine wpAnyH_take (i := 16) (oi := _) (v := ?_) (by simp only [List.getElem?_toArray, List.getElem?_cons_succ, List.getElem?_cons_zero]; rfl) (by kernel_rfl) (by kernel_rfl) (by kernel_rfl) (by intro _ _ _ h; exact h) (Or.inl ⟨by rfl, fun W hSw => ?_⟩) hHeld ?_
            rotate_left 1
            · (try dsimp only at hSw); first | (go_simp; done) | (go_simp; with_reducible rfl)
            try go_frame
            refine wpAnyH_ready (rs := [13]) (by kernel_rfl) (by simp) ?_
            refine AllReadyH.cons (o := _) (by simp only [List.getElem?_toArray, List.getElem?_cons_succ, List.getElem?_cons_zero]; rfl) (fun KX hKX => ?_) AllReadyH.nil
            clear hHeld
            go_simp
            refine (HT.out.fits zp.out zq.out).mono ?_
            rw [HF.out]
            rintro e wn ⟨rfl, hbn⟩
            replace HP1 := Lib.hid (bx_below HP1.out hbn)
            replace HQ1 := Lib.hid (bx_below HQ1.out hbn)
            replace HT := Lib.hid (HT.out.below hbn)
            replace HBJ := Lib.hid (HBJ.out.trans (hbn.mono HBJ.out.size))
            clear hbn
            refine hKX.out _ _ ⟨c2_at HP1.out, c2_at HQ1.out⟩ (fun hHeld => ?_)
            clear hKX KX
            try go_frame
            refine wpAnyH_ready (rs := [17]) (by kernel_rfl) (by simp) ?_
            refine AllReadyH.cons (o := _) (by simp only [List.getElem?_toArray, List.getElem?_cons_succ, List.getElem?_cons_zero]; rfl) (fun KX hKX => ?_) AllReadyH.nil
            clear hHeld
            go_simp
            refine HT.out.rfits.mono ?_
            rw [HF.out]
            rintro e wn ⟨rfl, hbn⟩
            replace HP1 := Lib.hid (bx_below HP1.out hbn)
            replace HQ1 := Lib.hid (bx_below HQ1.out hbn)
            replace HT := Lib.hid (HT.out.below hbn)
            replace HBJ := Lib.hid (HBJ.out.trans (hbn.mono HBJ.out.size))
            clear hbn
            refine hKX.out _ _ ⟨c2_at HP1.out, c2_at HQ1.out⟩ (fun hHeld => ?_)
            clear hKX KX
            try go_frame
            refine wpAnyH_take (i := 18) (oi := _) (v := ?_) (by simp only [List.getElem?_toArray, List.getElem?_cons_succ, List.getElem?_cons_zero]; rfl) (by kernel_rfl) (by kernel_rfl) (by kernel_rfl) (by intro _ _ _ h; exact h) (Or.inl ⟨by rfl, fun W hSw => ?_⟩) hHeld ?_
            rotate_left 1
            · (clear hSw; first | (go_simp; done) | (go_simp; with_reducible rfl))
            try go_frame
            refine wpAnyH_take (i := 19) (oi := _) (v := ?_) (by simp only [List.getElem?_toArray, List.getElem?_cons_succ, List.getElem?_cons_zero]; rfl) (by kernel_rfl) (by kernel_rfl) (by kernel_rfl) (by intro _ _ _ h; exact h) (Or.inl ⟨by rfl, fun W hSw => ?_⟩) hHeld ?_
            rotate_left 1
            · (clear hSw; first | (go_simp; done) | (go_simp; with_reducible rfl))
            try go_frame
            refine wpAnyH_take (i := 20) (oi := _) (v := ?_) (by simp only [List.getElem?_toArray, List.getElem?_cons_succ, List.getElem?_cons_zero]; rfl) (by kernel_rfl) (by kernel_rfl) (by kernel_rfl) (by intro _ _ _ h; exact h) (Or.inl ⟨by rfl, fun W hSw => ?_⟩) hHeld ?_
            rotate_left 1
            · (clear hSw; first | (go_simp; done) | (go_simp; with_reducible rfl))
            try go_frame
            refine wpAnyH_take (i := 21) (oi := _) (v := ?_) (by simp only [List.getElem?_toArray, List.getElem?_cons_succ, List.getElem?_cons_zero]; rfl) (by kernel_rfl) (by kernel_rfl) (by kernel_rfl) (by intro _ _ _ h; exact h) (Or.inl ⟨by rfl, fun W hSw => ?_⟩) hHeld ?_
            rotate_left 1
            · (try dsimp only at hSw); first | (go_simp; done) | (go_simp; with_reducible rfl)
            try go_frame
            refine wpAnyH_take (i := 23) (oi := _) (v := ?_) (by simp only [List.getElem?_toArray, List.getElem?_cons_succ, List.getElem?_cons_zero]; rfl) (by kernel_rfl) (by kernel_rfl) (by kernel_rfl) (by intro _ _ _ h; exact h) (Or.inl ⟨by rfl, fun W hSw => ?_⟩) hHeld ?_
            rotate_left 1
            · (try dsimp only at hSw); first | (go_simp; done) | (go_simp; with_reducible rfl)
            try go_frame
            refine wpAnyH_ready (rs := [22]) (by kernel_rfl) (by simp) ?_
            refine AllReadyH.cons (o := _) (by simp only [List.getElem?_toArray, List.getElem?_cons_succ, List.getElem?_cons_zero]; rfl) (fun KX hKX => ?_) AllReadyH.nil
            clear hHeld
            go_simp
            refine refers_c.mono ?_
            rw [HE.out]
            rintro e wn ⟨rfl, hbn⟩
            replace HP1 := Lib.hid (bx_below HP1.out hbn)
            replace HQ1 := Lib.hid (bx_below HQ1.out hbn)
            replace HT := Lib.hid (HT.out.below hbn)
            replace HBJ := Lib.hid (HBJ.out.trans (hbn.mono HBJ.out.size))
            clear hbn
            refine hKX.out _ _ ⟨c2_at HP1.out, c2_at HQ1.out⟩ (fun hHeld => ?_)
            clear hKX KX
            try go_frame
            refine wpAnyH_ready (rs := [24]) (by kernel_rfl) (by simp) ?_
            refine AllReadyH.cons (o := _) (by simp only [List.getElem?_toArray, List.getElem?_cons_succ, List.getElem?_cons_zero]; rfl) (fun KX hKX => ?_) AllReadyH.nil
            clear hHeld
            go_simp
            refine rrefers_c.mono ?_
            rw [HE.out]
            rintro e wn ⟨rfl, hbn⟩
            replace HP1 := Lib.hid (bx_below HP1.out hbn)
            replace HQ1 := Lib.hid (bx_below HQ1.out hbn)
            replace HT := Lib.hid (HT.out.below hbn)
            replace HBJ := Lib.hid (HBJ.out.trans (hbn.mono HBJ.out.size))
            clear hbn
            refine hKX.out _ _ ⟨c2_at HP1.out, c2_at HQ1.out⟩ (fun hHeld => ?_)
            clear hKX KX
            try go_frame
            refine wpAnyH_take (i := 25) (oi := _) (v := ?_) (by simp only [List.getElem?_toArray, List.getElem?_cons_succ, List.getElem?_cons_zero]; rfl) (by kernel_rfl) (by kernel_rfl) (by kernel_rfl) (by intro _ _ _ h; exact h) (Or.inl ⟨by rfl, fun W hSw => ?_⟩) hHeld ?_
            rotate_left 1
            · (clear hSw; first | (go_simp; done) | (go_simp; with_reducible rfl))
            try go_frame
            refine wpAnyH_take (i := 26) (oi := _) (v := ?_) (by simp only [List.getElem?_toArray, List.getElem?_cons_succ, List.getElem?_cons_zero]; rfl) (by kernel_rfl) (by kernel_rfl) (by kernel_rfl) (by intro _ _ _ h; exact h) (Or.inl ⟨by rfl, fun W hSw => ?_⟩) hHeld ?_
            rotate_left 1
            · (clear hSw; first | (go_simp; done) | (go_simp; with_reducible rfl))
            try go_frame
            refine wpAnyH_done (by kernel_rfl) ?_ _
            clear hHeld HP1 HQ1 HT
            go_wp2_with fail
            go_roundw
            case rel => exact ⟨j + 1, by go_num, by omega, HBJ⟩
            case measure => simp [intOf]; omega
          · obtain rfl : j = 2 := by omega
            have hltj' : ¬ (2 : Int) < 2 := by omega
            replace HBP := Lib.hid (HBP.out.trans (HBJ.out.mono HBP.out.size))
            clear HBJ HT HP1 HA HC HB
            go_wp2_with fail
            go_roundw
            case rel => exact ⟨i + 1, by go_num, by omega, HBP⟩
            case measure => simp [intOf]; omega
      · obtain rfl : i = 2 := by omega
        have hlt' : ¬ (2 : Int) < 2 := by omega
        have hb2 := HBP.out
        replace HT := Lib.hid (HT.out.below hb2)
        replace HB := Lib.hid (HB.out.trans (hb2.mono HB.out.size))
        have HLL := Lib.hid (HL0.out.below HB.out HP0.out)
        have HPL := HP0.out.imp id (fun h g e => Nat.lt_of_lt_of_le (h g e) HB.out.size)
        have HMM := Lib.hid (HM0.out.below HB.out HQ0.out)
        have HPM := HQ0.out.imp id (fun h g e => Nat.lt_of_lt_of_le (h g e) HB.out.size)
        clear hb2 HA HC HBP HPP
        obtain ⟨wB, hwB⟩ : ∃ z, z = wr := ⟨_, rfl⟩
        rw [← hwB] at HT HB HLL HPL HMM HPM ⊢
        clear hwB
        obtain ⟨B, hB⟩ : ∃ B, wB.heap.size = B := ⟨_, rfl⟩
        have HSB : Hid (∀ W, Below B wB W → B ≤ W.heap.size) := Lib.hid (fun W h => by rw [← hB]; exact h.size)
        have HBW : Hid (Below B wB wB) := Lib.hid (Below.refl _ _)
        have HBE : Hid (∀ W, Below B wB W → Below wB.heap.size wB W) := Lib.hid (fun W h => by rw [hB]; exact h)
        rw [hB] at HPL HPM
        replace HPL := Lib.hid HPL
        replace HPM := Lib.hid HPM
        clear hB
        have HO : Hid (OT wB B (.slice none 0 0) (tyL s (l.take 0))) := Lib.hid (OwnX.nil _ _ _ _ _)
        go_wp2_with fail
        go_loopw [24, 26] (fun va vi wr => ∃ (i : Nat) (pa : Option Addr) (na ca : Nat), va = .slice pa na ca ∧ vi = .int .i64 (i : Int) ∧ i ≤ l.length ∧ Hid (OT wr B (.slice pa na ca) (tyL s (l.take i))) ∧ Hid (Below B wB wr)) (fun _ x _ => l.length - (intOf x).toNat)
        case atStart => exact ⟨0, none, 0, 0, rfl, rfl, by omega, HO, HBW⟩
        case round =>
          clear HO HBW
          obtain ⟨i, pa, na, ca, rfl, rfl, hin, HO, HBW⟩ := hrel
          by_cases hlt : i < l.length
          · have hlt' : (i : Int) < (l.length : Int) := by omega
            have hl12 := HZL.out
            obtain ⟨z, hz⟩ : ∃ z, l[i]? = some z := ⟨_, List.getElem?_eq_getElem hlt⟩
            have HNX := Lib.hid (tyL_next (s := s) hz)
            obtain ⟨t, ht⟩ : ∃ t, ofJ z.toNat s = t := ⟨_, rfl⟩
            have HTT := Lib.hid ht
            rw [ht] at HNX
            obtain ⟨al, hal, hcx⟩ := rd_place6 (HLL.out.below HBW.out HPL.out) hz
            subst hal
            clear ht hz
            go_wp2_with fail
            refine (of_y z.toNat s _ z.toNat_lt).mono ?_
            rw [HTT.out, tyv_eta]
            rintro e wa ⟨rfl, hbn⟩
            replace HO := Lib.hid (HO.out.kptS (.of_below hbn : Kpt [] _ _) (fun _ _ => by simp))
            replace HBW := Lib.hid (HBW.out.trans (hbn.mono (HSB.out _ HBW.out)))
            clear hbn hcx
            have HSRC := Lib.hid (rdX_lit1 (sz := 2) (c := tyC) (fun _ => rfl) wa t #[.int .i64 t.1, .string t.2] 24 rfl)
            have hbn := below_alR wa (.cells #[.int .i64 t.1, .string t.2] 24)
            replace HO := Lib.hid (HO.out.kptS (.of_below hbn : Kpt [] _ _) (fun _ _ => by simp))
            replace HBW := Lib.hid (HBW.out.trans (hbn.mono (HSB.out _ HBW.out)))
            clear hbn
            go_wp2_with (at_builtin; refine wp_appM inf_typ shape_typ rfl _ _ rfl B _ (tyL s (l.take i)) rfl HO.out wa.heap.size 0 1 1 [t] rfl HSRC.out (by rw [tyL_len, List.length_take]; simp; omega) (HSB.out _ HBW.out) ?_)
            intro v6 w6 ho6 hg6 hl6
            obtain ⟨pa2, na2, ca2, hv6⟩ := ho6.slice
            subst hv6
            have hbn := grown_bel HO.out hg6 (HSB.out _ HBW.out)
            rw [HNX.out] at ho6
            replace HO := Lib.hid (ho6)
            replace HBW := Lib.hid (HBW.out.trans hbn)
            clear hbn ho6 hg6 hl6 HSRC
            go_wp2_with fail
            go_roundw
            case rel => exact ⟨i + 1, pa2, na2, ca2, rfl, by go_num, by omega, HO, HBW⟩
            case measure => simp [intOf]; omega
          · obtain rfl : i = l.length := by omega
            have hlt' : ¬ (l.length : Int) < (l.length : Int) := by omega
            rw [List.take_length] at HO
            obtain ⟨_, _, e1, -⟩ := (HO.out.rd (sP.grow _)).len
            simp only [Value.slice.injEq] at e1
            obtain ⟨rfl, rfl, rfl⟩ := e1
            obtain ⟨nA, hnA⟩ : ∃ n, (tyL s l).length = n := ⟨_, rfl⟩
            obtain ⟨pA, hpA⟩ : ∃ n, pa = n := ⟨_, rfl⟩
            obtain ⟨cA, hcA⟩ : ∃ n, ca = n := ⟨_, rfl⟩
            rw [hnA, hpA, hcA] at HO ⊢
            have HNA := Lib.hid hnA
            clear hnA hpA hcA HLL HPL
            replace HO : Hid (TwoO wr B (.slice pA nA cA) (.slice none 0 0) (tyL s l) (tyL s (m.take 0))) := Lib.hid ⟨HO.out, OwnX.nil _ _ _ _ _, fun _ _ e => by cases e⟩
            go_wp2_with fail
            go_loopw [25, 27] (fun va vi wr => ∃ (i : Nat) (pa : Option Addr) (na ca : Nat), va = .slice pa na ca ∧ vi = .int .i64 (i : Int) ∧ i ≤ m.length ∧ Hid (TwoO wr B (.slice pA nA cA) (.slice pa na ca) (tyL s l) (tyL s (m.take i))) ∧ Hid (Below B wB wr)) (fun _ x _ => m.length - (intOf x).toNat)
            case atStart => exact ⟨0, none, 0, 0, rfl, rfl, by omega, HO, HBW⟩
            case round =>
              clear HO HBW
              obtain ⟨i, pa, na, ca, rfl, rfl, hin, HO, HBW⟩ := hrel
              by_cases hlt : i < m.length
              · have hlt' : (i : Int) < (m.length : Int) := by omega
                have hl12 := HZL.out
                obtain ⟨z, hz⟩ : ∃ z, m[i]? = some z := ⟨_, List.getElem?_eq_getElem hlt⟩
                have HNX := Lib.hid (tyL_next (s := s) hz)
                obtain ⟨t, ht⟩ : ∃ t, ofJ z.toNat s = t := ⟨_, rfl⟩
                have HTT := Lib.hid ht
                rw [ht] at HNX
                obtain ⟨al, hal, hcx⟩ := rd_place6 (HMM.out.below HBW.out HPM.out) hz
                subst hal
                clear ht hz
                go_wp2_with fail
                refine (of_y z.toNat s _ z.toNat_lt).mono ?_
                rw [HTT.out, tyv_eta]
                rintro e wa ⟨rfl, hbn⟩
                replace HO := Lib.hid (HO.out.below hbn)
                replace HBW := Lib.hid (HBW.out.trans (hbn.mono (HSB.out _ HBW.out)))
                clear hbn hcx
                have HSRC := Lib.hid (rdX_lit1 (sz := 2) (c := tyC) (fun _ => rfl) wa t #[.int .i64 t.1, .string t.2] 24 rfl)
                have hbn := below_alR wa (.cells #[.int .i64 t.1, .string t.2] 24)
                replace HO := Lib.hid (HO.out.below hbn)
                replace HBW := Lib.hid (HBW.out.trans (hbn.mono (HSB.out _ HBW.out)))
                clear hbn
                go_wp2_with (at_builtin; refine wp_appM inf_typ shape_typ rfl _ _ rfl B _ (tyL s (m.take i)) rfl HO.out.2.1 wa.heap.size 0 1 1 [t] rfl HSRC.out (by rw [tyL_len, List.length_take]; simp; omega) (HSB.out _ HBW.out) ?_)
                intro v6 w6 ho6 hg6 hl6
                obtain ⟨pa2, na2, ca2, hv6⟩ := ho6.slice
                subst hv6
                have hbn := grown_bel HO.out.2.1 hg6 (HSB.out _ HBW.out)
                rw [HNX.out] at ho6
                replace HO := Lib.hid (HO.out.appB ho6 hg6 (by rw [World.size_alloc]; exact hl6))
                replace HBW := Lib.hid (HBW.out.trans hbn)
                clear hbn ho6 hg6 hl6 HSRC
                go_wp2_with fail
                go_roundw
                case rel => exact ⟨i + 1, pa2, na2, ca2, rfl, by go_num, by omega, HO, HBW⟩
                case measure => simp [intOf]; omega
              · obtain rfl : i = m.length := by omega
                have hlt' : ¬ (m.length : Int) < (m.length : Int) := by omega
                rw [List.take_length] at HO
                obtain ⟨_, _, e1, -⟩ := (HO.out.2.1.rd (sP.grow _)).len
                simp only [Value.slice.injEq] at e1
                obtain ⟨rfl, rfl, rfl⟩ := e1
                have hb2 := HBE.out _ HBW.out
                replace HT := Lib.hid (HT.out.below hb2)
                replace HB := Lib.hid (HB.out.trans (hb2.mono HB.out.size))
                have hzA : ∀ t ∈ tyL s l, t.2.size ≤ maxLen := tyL_sz (by unfold maxLen; omega) (Nat.le_trans HZS.out.1 (by unfold maxLen; omega))
                have hzL : ∀ t ∈ tyL s m, t.2.size ≤ maxLen := tyL_sz (by unfold maxLen; omega) (Nat.le_trans HZS.out.1 (by unfold maxLen; omega))
                have hA12 : (tyL s l).length ≤ 12 := by rw [tyL_len]; exact HZL.out.1
                clear hb2 HBE HBW HSB HMM HPM
                obtain ⟨A, hA⟩ : ∃ A, tyL s l = A := ⟨_, rfl⟩
                obtain ⟨L, hL⟩ : ∃ L, tyL s m = L := ⟨_, rfl⟩
                rw [hA] at HO hzA hA12 HNA
                rw [hL] at HO hzL ⊢
                have HZA2 := Lib.hid hzA
                have HZL2 := Lib.hid hzL
                have HA12 := Lib.hid hA12
                clear hA hL hzA hzL hA12
                obtain ⟨JL, hJL⟩ : ∃ J, (if A.length = L.length then allT T A L else []) = J := ⟨_, rfl⟩
                have HJLE : Hid (JL.length ≤ 100000) := Lib.hid (by
                  rw [← hJL]
                  split
                  · rename_i h; rw [allT_len h]; have := HA12.out; omega
                  · simp)
                have HJL := Lib.hid hJL
                clear hJL
                go_wp2_with fail
                refine (All_n ok1 (fun b => B ≤ b) (fun b => B ≤ b) _ K _ _ A L wr HT.out.1 (HO.out.1.rd (sP.grow _)) (HO.out.2.1.rd (sP.grow _)) HZA2.out HZL2.out (by have := HA12.out; omega)).mono ?_
                rw [HT.out.2.2.1, HJL.out]
                rintro e w5 ⟨vc, rfl, hoc, hb5⟩
                obtain ⟨bb, hbb⟩ : ∃ b, decide (A.length = L.length) = b := ⟨_, rfl⟩
                have HBB := Lib.hid hbb
                rw [hbb]
                clear hbb
                obtain ⟨pc, cc, hvc, -⟩ := (hoc.rd (sP.grow _)).len
                subst hvc
                replace HO := Lib.hid (HO.out.below hb5)
                replace HT := Lib.hid (HT.out.below hb5)
                replace HB := Lib.hid (HB.out.trans (hb5.mono HB.out.size))
                have HRC := Lib.hid (hoc.rd (sP.grow _))
                clear hoc hb5
                go_wp2_with fail
                refine (All_r (fun b => B ≤ b) (fun b => B ≤ b) rb p1 c1' AR _ _ A L w5 HT.out.2.1 (HO.out.1.rd (sP.grow _)) (HO.out.2.1.rd (sP.grow _)) (by have := HA12.out; omega)).mono ?_
                rw [HT.out.2.2.2.1, HJL.out, HBB.out]
                rintro e w6 ⟨vd, rfl, hod, hb6⟩
                obtain ⟨pd, cd, hvd, -⟩ := (hod.rd (sP.grow _)).len
                subst hvd
                replace HRC := Lib.hid (HRC.out.any (sP.grow _) hb6)
                replace HB := Lib.hid (HB.out.trans (hb6.mono HB.out.size))
                have HRD := Lib.hid (hod.rd (sP.grow _))
                clear hod hb6 HO HT HNA HZA2 HZL2 HA12 HJL HBB
                have hbn := below_alR w6 (.cells #[.slice none 0 0] 35)
                have HNX := Lib.hid (heap_alloc_new w6 (.cells #[.slice none 0 0] 35))
                have HN : Hid (TwoW (w6.alloc (.cells #[.slice none 0 0] 35)) anyB anyB (.pointer none) [] w6.heap.size none 0 [] []) := Lib.hid ⟨.inr ⟨rfl, rfl⟩, ⟨HNX.out, RdX.nil _ _ _ _, by simp⟩, rfl, rfl, fun s => Nat.le_trans ((SzT.ifs (T := []) ⟨by simp, fun c hc => by cases hc⟩ s).1) (by omega)⟩
                replace HRC := Lib.hid (HRC.out.any (sP.grow _) hbn)
                replace HRD := Lib.hid (HRD.out.any (sP.grow _) hbn)
                replace HB := Lib.hid (HB.out.trans (hbn.mono HB.out.size))
                obtain ⟨rn, hrn⟩ : ∃ z, w6.heap.size = z := ⟨_, rfl⟩
                rw [hrn] at HN
                obtain ⟨fn, hfn⟩ : ∃ z, fitsT [] (u.1, u.2) (v.1, v.2) = z := ⟨_, rfl⟩
                obtain ⟨jn, hjn⟩ : ∃ z, joinT [] (u.1, u.2) (v.1, v.2) = z := ⟨_, rfl⟩
                have HFN := Lib.hid hfn
                have HJN := Lib.hid hjn
                have HRN := Lib.hid hrn
                clear hbn HNX hrn hfn hjn
                go_wp2_with fail
                rw [HRN.out]
                refine (same_r _ _ JL _ HRC.out HRD.out HJLE.out).mono ?_
                rintro e wn ⟨rfl, hbn⟩
                replace HN := Lib.hid (HN.out.below hbn)
                replace HB := Lib.hid (HB.out.trans (hbn.mono HB.out.size))
                clear hbn HRC HRD HRN
                go_wp2_with fail
                refine (of_y x s _ hx).mono ?_
                rw [HU.out, tyv_eta]
                rintro e wn ⟨rfl, hbn⟩
                replace HN := Lib.hid (HN.out.below hbn)
                replace HB := Lib.hid (HB.out.trans (hbn.mono HB.out.size))
                clear hbn
                go_wp2_with fail
                refine (of_y y s _ hy).mono ?_
                rw [HV.out, tyv_eta]
                rintro e wn ⟨rfl, hbn⟩
                replace HN := Lib.hid (HN.out.below hbn)
                replace HB := Lib.hid (HB.out.trans (hbn.mono HB.out.size))
                clear hbn
                go_wp2_with fail
                refine (HN.out.fits ZU.out ZV.out).mono ?_
                rw [HFN.out]
                rintro e wn ⟨rfl, hbn⟩
                replace HN := Lib.hid (HN.out.below hbn)
                replace HB := Lib.hid (HB.out.trans (hbn.mono HB.out.size))
                clear hbn
                go_wp2_with fail
                refine (of_y x s _ hx).mono ?_
                rw [HU.out, tyv_eta]
                rintro e wn ⟨rfl, hbn⟩
                replace HN := Lib.hid (HN.out.below hbn)
                replace HB := Lib.hid (HB.out.trans (hbn.mono HB.out.size))
                clear hbn
                go_wp2_with fail
                refine (of_y y s _ hy).mono ?_
                rw [HV.out, tyv_eta]
                rintro e wn ⟨rfl, hbn⟩
                replace HN := Lib.hid (HN.out.below hbn)
                replace HB := Lib.hid (HB.out.trans (hbn.mono HB.out.size))
                clear hbn
                go_wp2_with fail
                refine (HN.out.rfits).mono ?_
                rw [HFN.out]
                rintro e wn ⟨rfl, hbn⟩
                replace HN := Lib.hid (HN.out.below hbn)
                replace HB := Lib.hid (HB.out.trans (hbn.mono HB.out.size))
                clear hbn
                go_wp2_with fail
                refine (of_y x s _ hx).mono ?_
                rw [HU.out, tyv_eta]
                rintro e wn ⟨rfl, hbn⟩
                replace HN := Lib.hid (HN.out.below hbn)
                replace HB := Lib.hid (HB.out.trans (hbn.mono HB.out.size))
                clear hbn
                go_wp2_with fail
                refine (of_y y s _ hy).mono ?_
                rw [HV.out, tyv_eta]
                rintro e wn ⟨rfl, hbn⟩
                replace HN := Lib.hid (HN.out.below hbn)
                replace HB := Lib.hid (HB.out.trans (hbn.mono HB.out.size))
                clear hbn
                go_wp2_with fail
                refine (HN.out.join ZU.out ZV.out).mono ?_
                rw [HJN.out, tyv_eta]
                rintro e wn ⟨rfl, hbn⟩
                replace HN := Lib.hid (HN.out.below hbn)
                replace HB := Lib.hid (HB.out.trans (hbn.mono HB.out.size))
                clear hbn
                go_wp2_with fail
                refine (of_y x s _ hx).mono ?_
                rw [HU.out, tyv_eta]
                rintro e wn ⟨rfl, hbn⟩
                replace HN := Lib.hid (HN.out.below hbn)
                replace HB := Lib.hid (HB.out.trans (hbn.mono HB.out.size))
                clear hbn
                go_wp2_with fail
                refine (of_y y s _ hy).mono ?_
                rw [HV.out, tyv_eta]
                rintro e wn ⟨rfl, hbn⟩
                replace HN := Lib.hid (HN.out.below hbn)
                replace HB := Lib.hid (HB.out.trans (hbn.mono HB.out.size))
                clear hbn
                go_wp2_with fail
                refine (HN.out.rjoin).mono ?_
                rw [HJN.out, tyv_eta]
                rintro e wn ⟨rfl, hbn⟩
                replace HN := Lib.hid (HN.out.below hbn)
                replace HB := Lib.hid (HB.out.trans (hbn.mono HB.out.size))
                clear hbn
                go_wp2_with fail
                go_ret
                exact ⟨rfl, HB.out⟩
end Go.Proofs.Ytdjciahaohfohaa.R
