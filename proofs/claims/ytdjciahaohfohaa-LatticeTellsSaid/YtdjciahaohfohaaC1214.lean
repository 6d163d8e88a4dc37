/- Texts that the proof is made of, joined. No condition. -/
import Derived.Test.YtdjciahaohfohaaC1210
import Derived.Test.YtdjciahaohfohaaC122
import Derived.Test.YtdjciahaohfohaaC129
import Derived.Test.YtdjciahaohfohaaC123
import Derived.Test.YtdjciahaohfohaaC1213
import Derived.Deep.DeepCutAuto
import Derived.Deep.CutBlock
import Derived.Test.YtdjciahaohfohaaC12H
set_option linter.unusedVariables false
set_option linter.unusedSimpArgs false
set_option maxRecDepth 100000
set_option maxHeartbeats 16000000
namespace Go.Proofs.Ytdjciahaohfohaa.R
open Go.RowKit Go.Proofs.Ytdjciahaohfohaa.D Go.Proofs.Ytdjciahaohfohaa.O Go.Proofs.Ytdjciahaohfohaa.A
theorem Join_y (ok : Nat → Prop) (tb mt : Nat) (vs : Value) (K : List Cls) (a b : Ty) (w : World) (h : TrW w ok tb mt vs K) (ha : a.2.size ≤ maxLen) (hb : b.2.size ≤ maxLen) :
    Calls Try.prog 12 #[.pointer (some ⟨tb, 0, none⟩), tyv a, tyv b] w fun e w' => e = .returned (tyv (joinT (K.map skOf) a b)) ∧ Below w.heap.size w w' :=
  Join_n ok _ K a b w (.inl ⟨tb, mt, vs, rfl, h⟩) ha hb
theorem Fits_y (ok : Nat → Prop) (tb mt : Nat) (vs : Value) (K : List Cls) (a b : Ty) (w : World) (h : TrW w ok tb mt vs K) (ha : a.2.size ≤ maxLen) (hb : b.2.size ≤ maxLen) :
    Calls Try.prog 14 #[.pointer (some ⟨tb, 0, none⟩), tyv a, tyv b] w fun e w' => e = .returned (.bool (fitsT (K.map skOf) a b)) ∧ Below w.heap.size w w' :=
  Fits_n ok _ K a b w (.inl ⟨tb, mt, vs, rfl, h⟩) ha hb
theorem All_y (ok ok1 ok2 : Nat → Prop) (tb mt : Nat) (vs : Value) (K : List Cls) (va vb : Value) (a b : List Ty) (w : World) (h : TrW w ok tb mt vs K) (hra : RdX 2 (sP tyC) ok1 w va a) (hrb : RdX 2 (sP tyC) ok2 w vb b) (hza : ∀ t ∈ a, t.2.size ≤ maxLen) (hzb : ∀ t ∈ b, t.2.size ≤ maxLen) (hla : a.length ≤ 100000) (_hlb : b.length ≤ 100000) :
    Calls Try.prog 18 #[.pointer (some ⟨tb, 0, none⟩), va, vb] w fun e w' => ∃ v, e = .returned (.tuple #[v, .bool (decide (a.length = b.length))]) ∧ OwnX 2 24 (sP tyC) w' w.heap.size v (if a.length = b.length then allT (K.map skOf) a b else []) ∧ Below w.heap.size w w' :=
  All_n ok ok1 ok2 _ K va vb a b w (.inl ⟨tb, mt, vs, rfl, h⟩) hra hrb hza hzb hla
end Go.Proofs.Ytdjciahaohfohaa.R
namespace Go.Proofs.Ytdjciahaohfohaa.R
open Go.RowKit Go.Proofs.Ytdjciahaohfohaa.D Go.Proofs.Ytdjciahaohfohaa.O Go.Proofs.Ytdjciahaohfohaa.A
def TyB (W : World) (p : Nat × Ty) : Prop := W.heap[p.1]? = some (.cells #[.int .i64 p.2.1, .string p.2.2] 24 (0, 0))
def StJ (w W : World) (ok : Nat → Prop) (tb mt : Nat) (vs : Value) (K : List Cls) (L : List (Nat × Ty)) : Prop := TrW W ok tb mt vs K ∧ (∀ p ∈ L, TyB W p) ∧ Below w.heap.size w W
theorem StJ.below {w W W' : World} {ok : Nat → Prop} {tb mt : Nat} {vs : Value} {K : List Cls} {L : List (Nat × Ty)} (h : StJ w W ok tb mt vs K L) (hb : Below W.heap.size W W') : StJ w W' ok tb mt vs K L :=
  ⟨h.1.below hb, fun p hp => (hb.block _ (Array.getElem?_eq_some_iff.1 (h.2.1 p hp)).1).trans (h.2.1 p hp), h.2.2.trans (hb.mono h.2.2.size)⟩
theorem StJ.cell {w W : World} {ok : Nat → Prop} {tb mt : Nat} {vs : Value} {K : List Cls} {L : List (Nat × Ty)} (h : StJ w W ok tb mt vs K L) {g : Nat} {a : Ty} (hp : (g, a) ∈ L) : g < W.heap.size ∧ W.cell? ⟨g, 0, none⟩ = some (.int .i64 a.1) ∧ W.cell? ⟨g, 1, none⟩ = some (.string a.2) := by
  have hx : W.heap[g]? = _ := h.2.1 _ hp
  exact ⟨(Array.getElem?_eq_some_iff.1 hx).1, by simp [World.cell?, hx], by simp [World.cell?, hx]⟩
theorem StJ.box {w W : World} {ok : Nat → Prop} {tb mt : Nat} {vs : Value} {K : List Cls} {L : List (Nat × Ty)} (h : StJ w W ok tb mt vs K L) (a : Ty) : StJ w (W.alloc (.cells #[.int .i64 a.1, .string a.2] 24)) ok tb mt vs K ((W.heap.size, a) :: L) :=
  ⟨(h.below (below_alR _ _)).1, fun p hp => by
    rcases List.mem_cons.1 hp with rfl | hp
    · exact heap_alloc_new _ _
    · exact (h.below (below_alR _ _)).2.1 p hp, (h.below (below_alR _ _)).2.2⟩
theorem fits_c {w W : World} {ok : Nat → Prop} {tb mt : Nat} {vs : Value} {K : List Cls} {L : List (Nat × Ty)} {T : List Sk} {k1 k2 : Int} {s1 s2 : ByteArray} (h : StJ w W ok tb mt vs K L) (hk : K.map skOf = T) (ha : s1.size ≤ maxLen) (hb : s2.size ≤ maxLen) :
    Calls Try.prog 14 #[.pointer (some ⟨tb, 0, none⟩), .agg #[.int .i64 k1, .string s1], .agg #[.int .i64 k2, .string s2]] W fun e w' => e = .returned (.bool (fitsT T (k1, s1) (k2, s2))) ∧ Below W.heap.size W w' := by
  have := Fits_y ok tb mt vs K (k1, s1) (k2, s2) W h.1 ha hb
  rw [hk] at this
  exact this
theorem join_c {w W : World} {ok : Nat → Prop} {tb mt : Nat} {vs : Value} {K : List Cls} {L : List (Nat × Ty)} {T : List Sk} {k1 k2 : Int} {s1 s2 : ByteArray} (h : StJ w W ok tb mt vs K L) (hk : K.map skOf = T) (ha : s1.size ≤ maxLen) (hb : s2.size ≤ maxLen) :
    Calls Try.prog 12 #[.pointer (some ⟨tb, 0, none⟩), .agg #[.int .i64 k1, .string s1], .agg #[.int .i64 k2, .string s2]] W fun e w' => e = .returned (tyv (joinT T (k1, s1) (k2, s2))) ∧ Below W.heap.size W w' := by
  have := Join_y ok tb mt vs K (k1, s1) (k2, s2) W h.1 ha hb
  rw [hk] at this
  exact this
theorem refers_c {W : World} {k : Int} {s : ByteArray} : Calls Try.prog 16 #[.agg #[.int .i64 k, .string s]] W fun e w' => e = .returned (.bool (refB (k, s))) ∧ Below W.heap.size W w' := Refers_y (k, s) W
theorem tyv_eta (a : Ty) : tyv a = .agg #[.int .i64 a.1, .string a.2] := rfl
theorem seat_tree (k0 k1 k2 k3 : Nat) (w : World) (p : Option Addr) (c : Nat) (ok : Nat → Prop) (hr : RdX 6 cP ok w (.slice p (archS k0 k1 k2 k3 [] []).length c) (archS k0 k1 k2 k3 [] [])) :
    Calls Try.prog 10 #[.agg #[.slice p (archS k0 k1 k2 k3 [] []).length c]] w fun e w' => ∃ tb mb vs ok' K, e = .returned (.pointer (some ⟨tb, 0, none⟩)) ∧ K.map skOf = tabT (bitS k0 3) (bitS k0 6) (bitS k2 2) ∧ StJ w w' ok' tb mb vs K [] :=
  (New_t _ _ _ _ w hr (seat_sz8 k0 k1 k2 k3) (seat_few k0 k1 k2 k3)).mono (fun e w' ⟨tb, mb, vs, he, ht, hb⟩ => ⟨tb, mb, vs, _, _, he, seat_kept k0 k1 k2 k3, ht, (fun _ hp => by cases hp), hb⟩)
end Go.Proofs.Ytdjciahaohfohaa.R
namespace Go.Proofs.Ytdjciahaohfohaa.R
open Go.RowKit Go.Proofs.Ytdjciahaohfohaa.D Go.Proofs.Ytdjciahaohfohaa.O Go.Proofs.Ytdjciahaohfohaa.A
theorem c2_below {W W' : World} {g : Nat} {u v : Value} (h : g < W.heap.size ∧ W.cell? ⟨g, 0, none⟩ = some u ∧ W.cell? ⟨g, 1, none⟩ = some v) (hb : Below W.heap.size W W') : g < W'.heap.size ∧ W'.cell? ⟨g, 0, none⟩ = some u ∧ W'.cell? ⟨g, 1, none⟩ = some v := by
  have e := hb.block g h.1
  exact ⟨Nat.lt_of_lt_of_le h.1 hb.size, by rw [← h.2.1]; simp only [World.cell?, e], by rw [← h.2.2]; simp only [World.cell?, e]⟩
theorem fld_0 (k : Int) (s : ByteArray) (W : World) : (Instr.field 24 (.agg #[.int .i64 k, .string s]) 0).run Try.prog W = .ok (.int .i64 k) W := by kernel_rfl
theorem fld_1 (k : Int) (s : ByteArray) (W : World) : (Instr.field 24 (.agg #[.int .i64 k, .string s]) 1).run Try.prog W = .ok (.string s) W := by kernel_rfl
theorem y_ab : joinT (tabT false false false) (4, ⟨#[66]⟩) (4, ⟨#[67]⟩) = (4, ⟨#[66, 97, 115, 101]⟩) := by decide +kernel
theorem y_na : joinT (tabT false false false) (6, ⟨#[]⟩) (4, ⟨#[66]⟩) = (4, ⟨#[66]⟩) := by decide +kernel
theorem y_ai : joinT (tabT false false false) (4, ⟨#[66]⟩) (1, ⟨#[]⟩) = (7, ⟨#[]⟩) := by decide +kernel
theorem y_all : allT (tabT false false false) [(4, ⟨#[66]⟩)] [(6, ⟨#[]⟩)] = [(4, ⟨#[66]⟩)] := by decide +kernel
theorem z_na : fitsT (tabT false false false) (6, ⟨#[]⟩) (4, ⟨#[66]⟩) = true := by decide +kernel
theorem z_ai : fitsT (tabT false false false) (4, ⟨#[66]⟩) (4, ⟨#[73]⟩) = true := by decide +kernel
theorem z_ba : fitsT (tabT false false false) (4, ⟨#[67]⟩) (4, ⟨#[66]⟩) = false := by decide +kernel
theorem r_n : refB (6, ⟨#[]⟩) = true := by decide +kernel
set_option maxHeartbeats 8000000 in
set_option maxRecDepth 100000 in
theorem known_11 (w : World) : Calls Try.prog 8 #[] w fun e w' => e = .returned (.bool true) ∧ Below w.heap.size w w' := by
  go_enter Try.func8, Try.ntmps8
  try simp only [List.append_eq, List.cons_append, List.nil_append]
  go_wp2_with fail
  refine (archive_0 0 0 0 0 w (by decide) (by decide) (by decide) (by decide)).mono ?_
  rintro e w2 ⟨p1, n1, c1, rfl, hr1, hb2⟩
  obtain ⟨_, _, e1, -⟩ := hr1.len
  simp only [Value.slice.injEq] at e1
  obtain ⟨rfl, rfl, rfl⟩ := e1
  have HR1 := Lib.hid hr1
  have HB2 := Lib.hid hb2
  clear hr1 hb2
  go_wp2_with fail
  refine (seat_tree 0 0 0 0 w2 _ _ _ HR1.out).mono ?_
  rintro e wn ⟨tb, mb, vs, ok, K, rfl, hk3, hs3⟩
  have HS := Lib.hid hs3
  have HK : Hid (K.map skOf = (tabT false false false)) := Lib.hid hk3
  clear hk3 hs3 HR1
  go_upto_region 3 with fail
  obtain ⟨wj, hwj⟩ : ∃ x, x = (((wn.alloc (.cells #[.int .i64 4, .string ⟨#[66]⟩] 24)).alloc (.cells #[.int .i64 4, .string ⟨#[67]⟩] 24)).alloc (.cells #[.int .i64 6, .string ⟨#[]⟩] 24)) := ⟨_, rfl⟩
  have hsj : StJ w2 wj ok tb mb vs K [(wn.heap.size + 2, (6, ⟨#[]⟩)), (wn.heap.size + 1, (4, ⟨#[67]⟩)), (wn.heap.size, (4, ⟨#[66]⟩))] := by
    rw [hwj]
    have := (((HS.out.box (4, ⟨#[66]⟩)).box (4, ⟨#[67]⟩)).box (6, ⟨#[]⟩))
    simp only [World.size_alloc] at this
    exact this
  rw [← hwj]
  clear hwj
  obtain ⟨g, hg⟩ : ∃ z, wn.heap.size = z := ⟨_, rfl⟩
  rw [hg] at hsj ⊢
  replace HS := Lib.hid hsj
  clear hg hsj
  obtain ⟨al, a0, a1⟩ := HS.out.cell (g := g) (a := (4, ⟨#[66]⟩)) (by simp)
  obtain ⟨bl, b0, b1⟩ := HS.out.cell (g := g + 1) (a := (4, ⟨#[67]⟩)) (by simp)
  obtain ⟨nl, n0, n1⟩ := HS.out.cell (g := g + 2) (a := (6, ⟨#[]⟩)) (by simp)
  try dsimp only at a0 a1 b0 b1 n0 n1
  have HP : Hid (RdX 2 (sP tyC) anyB (wj.alloc (.cells #[.int .i64 4, .string ⟨#[66]⟩] 24)) (.slice (some ⟨wj.heap.size, 0, none⟩) 1 1) [((4, ⟨#[66]⟩) : Ty)]) := Lib.hid (rdX_lit1 (sz := 2) (c := tyC) (fun _ => rfl) wj _ _ _ rfl)
  have HQ : Hid (RdX 2 (sP tyC) anyB ((wj.alloc (.cells #[.int .i64 4, .string ⟨#[66]⟩] 24)).alloc (.cells #[.int .i64 6, .string ⟨#[]⟩] 24)) (.slice (some ⟨wj.heap.size + 1, 0, none⟩) 1 1) [((6, ⟨#[]⟩) : Ty)]) := Lib.hid (by
    have := rdX_lit1 (sz := 2) (c := tyC) (fun _ => rfl) (wj.alloc (.cells #[.int .i64 4, .string ⟨#[66]⟩] 24)) ((6, ⟨#[]⟩) : Ty) #[.int .i64 6, .string ⟨#[]⟩] 24 rfl
    rwa [World.size_alloc] at this)
  go_wp2_with fail
  refine (All_y ok anyB anyB tb mb vs K _ _ [(4, ⟨#[66]⟩)] [(6, ⟨#[]⟩)] _ (HS.out.below (jbl2 _ _ _)).1 (HP.out.any (sP.grow _) (below_alR _ _)) HQ.out (by intro t ht; rw [List.mem_singleton.1 ht]; exact sz_small (by decide)) (by intro t ht; rw [List.mem_singleton.1 ht]; exact sz_small (by decide)) (by decide) (by decide)).mono ?_
  rintro e wl ⟨vl, rfl, ho, hbn⟩
  replace HS := Lib.hid ((HS.out.below (jbl2 _ _ _)).below hbn)
  replace ho : OwnX 2 24 (sP tyC) wl _ vl (allT (K.map skOf) [(4, ⟨#[66]⟩)] [(6, ⟨#[]⟩)]) := ho
  rw [HK.out, y_all] at ho
  obtain ⟨gl, cl, hvl, -, -, hgl⟩ := ho.row (by decide)
  subst hvl
  obtain ⟨bl, off, hp, -, -, -, -, hc⟩ := (ho.rd (sP.grow _)).at (by simp)
  cases hp
  obtain ⟨us, hus, hcs⟩ := hc 0 _ rfl
  have hus' : us = tyC (4, ⟨#[66]⟩) := hus
  subst hus'
  have l0 := hcs 0 _ rfl
  have l1 := hcs 1 _ rfl
  simp only [Nat.zero_mul, Nat.add_zero, Nat.zero_add] at l0 l1
  have HL : Hid (gl < wl.heap.size ∧ wl.cell? ⟨gl, 0, none⟩ = some (.int .i64 4) ∧ wl.cell? ⟨gl, 1, none⟩ = some (.string ⟨#[66]⟩)) := Lib.hid ⟨hgl, l0, l1⟩
  clear al a0 a1 bl b0 b1 nl n0 n1
  clear HP HQ hbn ho hgl hc hus hcs l0 l1
  obtain ⟨al, a0, a1⟩ := HS.out.cell (g := g) (a := (4, ⟨#[66]⟩)) (by simp)
  obtain ⟨bl, b0, b1⟩ := HS.out.cell (g := g + 1) (a := (4, ⟨#[67]⟩)) (by simp)
  obtain ⟨nl, n0, n1⟩ := HS.out.cell (g := g + 2) (a := (6, ⟨#[]⟩)) (by simp)
  try dsimp only at a0 a1 b0 b1 n0 n1
  have HP : Hid (RdX 2 (sP tyC) anyB (wl.alloc (.cells #[.int .i64 4, .string ⟨#[66]⟩] 24)) (.slice (some ⟨wl.heap.size, 0, none⟩) 1 1) [((4, ⟨#[66]⟩) : Ty)]) := Lib.hid (rdX_lit1 (sz := 2) (c := tyC) (fun _ => rfl) wl _ _ _ rfl)
  go_wp2_with fail
  refine (All_y ok anyB anyB tb mb vs K _ _ [(4, ⟨#[66]⟩)] [] _ (HS.out.below (below_alR _ _)).1 HP.out (RdX.nil _ _ _ _) (by intro t ht; rw [List.mem_singleton.1 ht]; exact sz_small (by decide)) (by intro t ht; cases ht) (by decide) (by decide)).mono ?_
  rintro e wj ⟨v2, rfl, ho, hbn⟩
  replace HS := Lib.hid ((HS.out.below (below_alR _ _)).below hbn)
  replace HL := Lib.hid (c2_below (c2_below HL.out (below_alR _ _)) hbn)
  obtain ⟨pr, nr, cr, hv2⟩ := ho.slice
  subst hv2
  clear al a0 a1 bl b0 b1 nl n0 n1
  clear HP hbn ho
  go_upto_region 5 with fail
  replace HS := Lib.hid (HS.out.below (Below.refl wj.heap.size wj).drew)
  replace HL := Lib.hid (c2_below HL.out (Below.refl wj.heap.size wj).drew)
  have j_ab := y_ab
  have j_na := y_na
  have j_ai := y_ai
  have s_na := z_na
  have s_ai := z_ai
  have s_ba := z_ba
  have r_n' := r_n
  have hf0 := fld_0
  have hf1 := fld_1
  refine wp_region_held_drew (S := fun W => ((g) < W.heap.size ∧ W.cell? ⟨g, 0, none⟩ = some (.int .i64 4) ∧ W.cell? ⟨g, 1, none⟩ = some (.string ⟨#[66]⟩)) ∧ ((g + 1) < W.heap.size ∧ W.cell? ⟨g + 1, 0, none⟩ = some (.int .i64 4) ∧ W.cell? ⟨g + 1, 1, none⟩ = some (.string ⟨#[67]⟩)) ∧ ((g + 2) < W.heap.size ∧ W.cell? ⟨g + 2, 0, none⟩ = some (.int .i64 6) ∧ W.cell? ⟨g + 2, 1, none⟩ = some (.string ⟨#[]⟩)) ∧ (gl < W.heap.size ∧ W.cell? ⟨gl, 0, none⟩ = some (.int .i64 4) ∧ W.cell? ⟨gl, 1, none⟩ = some (.string ⟨#[66]⟩))) (by kernel_rfl) ⟨HS.out.cell (g := g) (a := (4, ⟨#[66]⟩)) (by simp), HS.out.cell (g := g + 1) (a := (4, ⟨#[67]⟩)) (by simp), HS.out.cell (g := g + 2) (a := (6, ⟨#[]⟩)) (by simp), HL.out⟩ (fun hHeld => ?_)
  refine wpAnyH_take (i := 0) (oi := _) (v := ?_) (by simp only [List.getElem?_toArray, List.getElem?_cons_zero]; rfl) (by kernel_rfl) (by kernel_rfl) (by kernel_rfl) (by intro _ _ _ h; exact h) (Or.inl ⟨by rfl, fun W hSw => ?_⟩) hHeld ?_
  rotate_left 1
  · (clear hSw; first | (go_simp; done) | (go_simp; with_reducible rfl))
  try go_frame
  refine wpAnyH_take (i := 1) (oi := _) (v := ?_) (by simp only [List.getElem?_toArray, List.getElem?_cons_succ, List.getElem?_cons_zero]; rfl) (by kernel_rfl) (by kernel_rfl) (by kernel_rfl) (by intro _ _ _ h; exact h) (Or.inl ⟨by rfl, fun W hSw => ?_⟩) hHeld ?_
  rotate_left 1
  · (try dsimp only at hSw); first | (go_simp; done) | (go_simp; with_reducible rfl)
  try go_frame
  refine wpAnyH_take (i := 2) (oi := _) (v := ?_) (by simp only [List.getElem?_toArray, List.getElem?_cons_succ, List.getElem?_cons_zero]; rfl) (by kernel_rfl) (by kernel_rfl) (by kernel_rfl) (by intro _ _ _ h; exact h) (Or.inl ⟨by rfl, fun W hSw => ?_⟩) hHeld ?_
  rotate_left 1
  · (try dsimp only at hSw); first | (go_simp; done) | (go_simp; with_reducible rfl)
  try go_frame
  refine wpAnyH_ready (rs := [3]) (by kernel_rfl) (by simp) ?_
  refine AllReadyH.cons (o := _) (by simp only [List.getElem?_toArray, List.getElem?_cons_succ, List.getElem?_cons_zero]; rfl) (fun KX hKX => ?_) AllReadyH.nil
  clear hHeld
  go_simp
  refine (join_c HS.out HK.out (by exact sz_small (by decide)) (by exact sz_small (by decide))).mono ?_
  (first | rw [j_ab] | rw [j_na] | rw [j_ai]); rw [tyv_eta]
  rintro e wn ⟨rfl, hbn⟩
  replace HS := Lib.hid (HS.out.below hbn)
  replace HL := Lib.hid (c2_below HL.out hbn)
  clear hbn
  refine hKX.out _ _ ⟨HS.out.cell (g := g) (a := (4, ⟨#[66]⟩)) (by simp), HS.out.cell (g := g + 1) (a := (4, ⟨#[67]⟩)) (by simp), HS.out.cell (g := g + 2) (a := (6, ⟨#[]⟩)) (by simp), HL.out⟩ (fun hHeld => ?_)
  clear hKX KX
  try go_frame
  refine wpAnyH_take (i := 4) (oi := _) (v := ?_) (by simp only [List.getElem?_toArray, List.getElem?_cons_succ, List.getElem?_cons_zero]; rfl) (by kernel_rfl) (by kernel_rfl) (by kernel_rfl) (by intro _ _ _ h; exact h) (Or.inl ⟨by rfl, fun W hSw => ?_⟩) hHeld ?_
  rotate_left 1
  · (clear hSw; first | (go_simp; done) | (go_simp; with_reducible rfl))
  try go_frame
  refine wpAnyH_take (i := 5) (oi := _) (v := ?_) (by simp only [List.getElem?_toArray, List.getElem?_cons_succ, List.getElem?_cons_zero]; rfl) (by kernel_rfl) (by kernel_rfl) (by kernel_rfl) (by intro _ _ _ h; exact h) (Or.inl ⟨by rfl, fun W hSw => ?_⟩) hHeld ?_
  rotate_left 1
  · (clear hSw; first | (go_simp; done) | (go_simp; with_reducible rfl))
  try go_frame
  refine wpAnyH_take (i := 6) (oi := _) (v := ?_) (by simp only [List.getElem?_toArray, List.getElem?_cons_succ, List.getElem?_cons_zero]; rfl) (by kernel_rfl) (by kernel_rfl) (by kernel_rfl) (by intro _ _ _ h; exact h) (Or.inl ⟨by rfl, fun W hSw => ?_⟩) hHeld ?_
  rotate_left 1
  · (clear hSw; first | (go_simp; done) | (go_simp; with_reducible rfl))
  try go_frame
  refine wpAnyH_take (i := 7) (oi := _) (v := ?_) (by simp only [List.getElem?_toArray, List.getElem?_cons_succ, List.getElem?_cons_zero]; rfl) (by kernel_rfl) (by kernel_rfl) (by kernel_rfl) (by intro _ _ _ h; exact h) (Or.inl ⟨by rfl, fun W hSw => ?_⟩) hHeld ?_
  rotate_left 1
  · (clear hSw; first | (go_simp; done) | (go_simp; with_reducible rfl))
  try go_frame
  refine wpAnyH_take (i := 8) (oi := _) (v := ?_) (by simp only [List.getElem?_toArray, List.getElem?_cons_succ, List.getElem?_cons_zero]; rfl) (by kernel_rfl) (by kernel_rfl) (by kernel_rfl) (by intro _ _ _ h; exact h) (Or.inl ⟨by rfl, fun W hSw => ?_⟩) hHeld ?_
  rotate_left 1
  · (try dsimp only at hSw); first | (go_simp; done) | (go_simp; with_reducible rfl)
  try go_frame
  refine wpAnyH_take (i := 9) (oi := _) (v := ?_) (by simp only [List.getElem?_toArray, List.getElem?_cons_succ, List.getElem?_cons_zero]; rfl) (by kernel_rfl) (by kernel_rfl) (by kernel_rfl) (by intro _ _ _ h; exact h) (Or.inl ⟨by rfl, fun W hSw => ?_⟩) hHeld ?_
  rotate_left 1
  · (try dsimp only at hSw); first | (go_simp; done) | (go_simp; with_reducible rfl)
  try go_frame
  refine wpAnyH_take (i := 11) (oi := _) (v := ?_) (by simp only [List.getElem?_toArray, List.getElem?_cons_succ, List.getElem?_cons_zero]; rfl) (by kernel_rfl) (by kernel_rfl) (by kernel_rfl) (by intro _ _ _ h; exact h) (Or.inl ⟨by rfl, fun W hSw => ?_⟩) hHeld ?_
  rotate_left 1
  · (try dsimp only at hSw); first | (go_simp; done) | (go_simp; with_reducible rfl)
  try go_frame
  refine wpAnyH_ready (rs := [10]) (by kernel_rfl) (by simp) ?_
  refine AllReadyH.cons (o := _) (by simp only [List.getElem?_toArray, List.getElem?_cons_succ, List.getElem?_cons_zero]; rfl) (fun KX hKX => ?_) AllReadyH.nil
  clear hHeld
  go_simp
  refine (join_c HS.out HK.out (by exact sz_small (by decide)) (by exact sz_small (by decide))).mono ?_
  (first | rw [j_ab] | rw [j_na] | rw [j_ai]); rw [tyv_eta]
  rintro e wn ⟨rfl, hbn⟩
  replace HS := Lib.hid (HS.out.below hbn)
  replace HL := Lib.hid (c2_below HL.out hbn)
  clear hbn
  refine hKX.out _ _ ⟨HS.out.cell (g := g) (a := (4, ⟨#[66]⟩)) (by simp), HS.out.cell (g := g + 1) (a := (4, ⟨#[67]⟩)) (by simp), HS.out.cell (g := g + 2) (a := (6, ⟨#[]⟩)) (by simp), HL.out⟩ (fun hHeld => ?_)
  clear hKX KX
  try go_frame
  refine wpAnyH_take (i := 12) (oi := _) (v := ?_) (by simp only [List.getElem?_toArray, List.getElem?_cons_succ, List.getElem?_cons_zero]; rfl) (by kernel_rfl) (by kernel_rfl) (by kernel_rfl) (by intro _ _ _ h; exact h) (Or.inl ⟨by rfl, fun W hSw => ?_⟩) hHeld ?_
  rotate_left 1
  · (clear hSw; first | (go_simp; done) | (go_simp; with_reducible rfl))
  try go_frame
  refine wpAnyH_take (i := 13) (oi := _) (v := ?_) (by simp only [List.getElem?_toArray, List.getElem?_cons_succ, List.getElem?_cons_zero]; rfl) (by kernel_rfl) (by kernel_rfl) (by kernel_rfl) (by intro _ _ _ h; exact h) (Or.inl ⟨by rfl, fun W hSw => ?_⟩) hHeld ?_
  rotate_left 1
  · (clear hSw; first | (go_simp; done) | (go_simp; with_reducible rfl))
  try go_frame
  refine wpAnyH_take (i := 14) (oi := _) (v := ?_) (by simp only [List.getElem?_toArray, List.getElem?_cons_succ, List.getElem?_cons_zero]; rfl) (by kernel_rfl) (by kernel_rfl) (by kernel_rfl) (by intro _ _ _ h; exact h) (Or.inl ⟨by rfl, fun W hSw => ?_⟩) hHeld ?_
  rotate_left 1
  · (clear hSw; first | (go_simp; done) | (go_simp; with_reducible rfl))
  try go_frame
  refine wpAnyH_take (i := 15) (oi := _) (v := ?_) (by simp only [List.getElem?_toArray, List.getElem?_cons_succ, List.getElem?_cons_zero]; rfl) (by kernel_rfl) (by kernel_rfl) (by kernel_rfl) (by intro _ _ _ h; exact h) (Or.inl ⟨by rfl, fun W hSw => ?_⟩) hHeld ?_
  rotate_left 1
  · (clear hSw; first | (go_simp; done) | (go_simp; with_reducible rfl))
  try go_frame
  refine wpAnyH_take (i := 16) (oi := _) (v := ?_) (by simp only [List.getElem?_toArray, List.getElem?_cons_succ, List.getElem?_cons_zero]; rfl) (by kernel_rfl) (by kernel_rfl) (by kernel_rfl) (by intro _ _ _ h; exact h) (Or.inl ⟨by rfl, fun W hSw => ?_⟩) hHeld ?_
  rotate_left 1
  · (try dsimp only at hSw); first | (go_simp; done) | (go_simp; with_reducible rfl)
  try go_frame
  refine wpAnyH_take (i := 17) (oi := _) (v := ?_) (by simp only [List.getElem?_toArray, List.getElem?_cons_succ, List.getElem?_cons_zero]; rfl) (by kernel_rfl) (by kernel_rfl) (by kernel_rfl) (by intro _ _ _ h; exact h) (Or.inl ⟨by rfl, fun W hSw => ?_⟩) hHeld ?_
  rotate_left 1
  · (clear hSw; first | (go_simp; done) | (go_simp; with_reducible rfl))
  try go_frame
  refine wpAnyH_ready (rs := [18]) (by kernel_rfl) (by simp) ?_
  refine AllReadyH.cons (o := _) (by simp only [List.getElem?_toArray, List.getElem?_cons_succ, List.getElem?_cons_zero]; rfl) (fun KX hKX => ?_) AllReadyH.nil
  clear hHeld
  go_simp
  refine (join_c HS.out HK.out (by exact sz_small (by decide)) (by exact sz_small (by decide))).mono ?_
  (first | rw [j_ab] | rw [j_na] | rw [j_ai]); rw [tyv_eta]
  rintro e wn ⟨rfl, hbn⟩
  replace HS := Lib.hid (HS.out.below hbn)
  replace HL := Lib.hid (c2_below HL.out hbn)
  clear hbn
  refine hKX.out _ _ ⟨HS.out.cell (g := g) (a := (4, ⟨#[66]⟩)) (by simp), HS.out.cell (g := g + 1) (a := (4, ⟨#[67]⟩)) (by simp), HS.out.cell (g := g + 2) (a := (6, ⟨#[]⟩)) (by simp), HL.out⟩ (fun hHeld => ?_)
  clear hKX KX
  try go_frame
  refine wpAnyH_take (i := 19) (oi := _) (v := ?_) (by simp only [List.getElem?_toArray, List.getElem?_cons_succ, List.getElem?_cons_zero]; rfl) (by kernel_rfl) (by kernel_rfl) (by kernel_rfl) (by intro _ _ _ h; exact h) (Or.inl ⟨by rfl, fun W hSw => ?_⟩) hHeld ?_
  rotate_left 1
  · (clear hSw; first | (go_simp; done) | (go_simp; with_reducible rfl))
  try go_frame
  refine wpAnyH_take (i := 20) (oi := _) (v := ?_) (by simp only [List.getElem?_toArray, List.getElem?_cons_succ, List.getElem?_cons_zero]; rfl) (by kernel_rfl) (by kernel_rfl) (by kernel_rfl) (by intro _ _ _ h; exact h) (Or.inl ⟨by rfl, fun W hSw => ?_⟩) hHeld ?_
  rotate_left 1
  · (clear hSw; first | (go_simp; done) | (go_simp; with_reducible rfl))
  try go_frame
  refine wpAnyH_take (i := 21) (oi := _) (v := ?_) (by simp only [List.getElem?_toArray, List.getElem?_cons_succ, List.getElem?_cons_zero]; rfl) (by kernel_rfl) (by kernel_rfl) (by kernel_rfl) (by intro _ _ _ h; exact h) (Or.inl ⟨by rfl, fun W hSw => ?_⟩) hHeld ?_
  rotate_left 1
  · (clear hSw; first | (go_simp; done) | (go_simp; with_reducible rfl))
  try go_frame
  refine wpAnyH_take (i := 22) (oi := _) (v := ?_) (by simp only [List.getElem?_toArray, List.getElem?_cons_succ, List.getElem?_cons_zero]; rfl) (by kernel_rfl) (by kernel_rfl) (by kernel_rfl) (by intro _ _ _ h; exact h) (Or.inl ⟨by rfl, fun W hSw => ?_⟩) hHeld ?_
  rotate_left 1
  · (clear hSw; first | (go_simp; done) | (go_simp; with_reducible rfl))
  try go_frame
  refine wpAnyH_take (i := 23) (oi := _) (v := ?_) (by simp only [List.getElem?_toArray, List.getElem?_cons_succ, List.getElem?_cons_zero]; rfl) (by kernel_rfl) (by kernel_rfl) (by kernel_rfl) (by intro _ _ _ h; exact h) (Or.inl ⟨by rfl, fun W hSw => ?_⟩) hHeld ?_
  rotate_left 1
  · (clear hSw; first | (go_simp; done) | (go_simp; with_reducible rfl))
  try go_frame
  refine wpAnyH_take (i := 24) (oi := _) (v := ?_) (by simp only [List.getElem?_toArray, List.getElem?_cons_succ, List.getElem?_cons_zero]; rfl) (by kernel_rfl) (by kernel_rfl) (by kernel_rfl) (by intro _ _ _ h; exact h) (Or.inl ⟨by rfl, fun W hSw => ?_⟩) hHeld ?_
  rotate_left 1
  · (try dsimp only at hSw); first | (go_simp; done) | (go_simp; with_reducible rfl)
  try go_frame
  refine wpAnyH_take (i := 25) (oi := _) (v := ?_) (by simp only [List.getElem?_toArray, List.getElem?_cons_succ, List.getElem?_cons_zero]; rfl) (by kernel_rfl) (by kernel_rfl) (by kernel_rfl) (by intro _ _ _ h; exact h) (Or.inl ⟨by rfl, fun W hSw => ?_⟩) hHeld ?_
  rotate_left 1
  · (try dsimp only at hSw); first | (go_simp; done) | (go_simp; with_reducible rfl)
  try go_frame
  refine wpAnyH_ready (rs := [26]) (by kernel_rfl) (by simp) ?_
  refine AllReadyH.cons (o := _) (by simp only [List.getElem?_toArray, List.getElem?_cons_succ, List.getElem?_cons_zero]; rfl) (fun KX hKX => ?_) AllReadyH.nil
  clear hHeld
  go_simp
  refine (fits_c HS.out HK.out (by exact sz_small (by decide)) (by exact sz_small (by decide))).mono ?_
  (first | rw [s_na] | rw [s_ai] | rw [s_ba])
  rintro e wn ⟨rfl, hbn⟩
  replace HS := Lib.hid (HS.out.below hbn)
  replace HL := Lib.hid (c2_below HL.out hbn)
  clear hbn
  refine hKX.out _ _ ⟨HS.out.cell (g := g) (a := (4, ⟨#[66]⟩)) (by simp), HS.out.cell (g := g + 1) (a := (4, ⟨#[67]⟩)) (by simp), HS.out.cell (g := g + 2) (a := (6, ⟨#[]⟩)) (by simp), HL.out⟩ (fun hHeld => ?_)
  clear hKX KX
  try go_frame
  refine wpAnyH_take (i := 27) (oi := _) (v := ?_) (by simp only [List.getElem?_toArray, List.getElem?_cons_succ, List.getElem?_cons_zero]; rfl) (by kernel_rfl) (by kernel_rfl) (by kernel_rfl) (by intro _ _ _ h; exact h) (Or.inl ⟨by rfl, fun W hSw => ?_⟩) hHeld ?_
  rotate_left 1
  · (clear hSw; first | (go_simp; done) | (go_simp; with_reducible rfl))
  try go_frame
  refine wpAnyH_take (i := 28) (oi := _) (v := ?_) (by simp only [List.getElem?_toArray, List.getElem?_cons_succ, List.getElem?_cons_zero]; rfl) (by kernel_rfl) (by kernel_rfl) (by kernel_rfl) (by intro _ _ _ h; exact h) (Or.inl ⟨by rfl, fun W hSw => ?_⟩) hHeld ?_
  rotate_left 1
  · (clear hSw; first | (go_simp; done) | (go_simp; with_reducible rfl))
  try go_frame
  refine wpAnyH_take (i := 29) (oi := _) (v := ?_) (by simp only [List.getElem?_toArray, List.getElem?_cons_succ, List.getElem?_cons_zero]; rfl) (by kernel_rfl) (by kernel_rfl) (by kernel_rfl) (by intro _ _ _ h; exact h) (Or.inl ⟨by rfl, fun W hSw => ?_⟩) hHeld ?_
  rotate_left 1
  · (clear hSw; first | (go_simp; done) | (go_simp; with_reducible rfl))
  try go_frame
  refine wpAnyH_take (i := 30) (oi := _) (v := ?_) (by simp only [List.getElem?_toArray, List.getElem?_cons_succ, List.getElem?_cons_zero]; rfl) (by kernel_rfl) (by kernel_rfl) (by kernel_rfl) (by intro _ _ _ h; exact h) (Or.inl ⟨by rfl, fun W hSw => ?_⟩) hHeld ?_
  rotate_left 1
  · (try dsimp only at hSw); first | (go_simp; done) | (go_simp; with_reducible rfl)
  try go_frame
  refine wpAnyH_take (i := 31) (oi := _) (v := ?_) (by simp only [List.getElem?_toArray, List.getElem?_cons_succ, List.getElem?_cons_zero]; rfl) (by kernel_rfl) (by kernel_rfl) (by kernel_rfl) (by intro _ _ _ h; exact h) (Or.inl ⟨by rfl, fun W hSw => ?_⟩) hHeld ?_
  rotate_left 1
  · (clear hSw; first | (go_simp; done) | (go_simp; with_reducible rfl))
  try go_frame
  refine wpAnyH_ready (rs := [32]) (by kernel_rfl) (by simp) ?_
  refine AllReadyH.cons (o := _) (by simp only [List.getElem?_toArray, List.getElem?_cons_succ, List.getElem?_cons_zero]; rfl) (fun KX hKX => ?_) AllReadyH.nil
  clear hHeld
  go_simp
  refine (fits_c HS.out HK.out (by exact sz_small (by decide)) (by exact sz_small (by decide))).mono ?_
  (first | rw [s_na] | rw [s_ai] | rw [s_ba])
  rintro e wn ⟨rfl, hbn⟩
  replace HS := Lib.hid (HS.out.below hbn)
  replace HL := Lib.hid (c2_below HL.out hbn)
  clear hbn
  refine hKX.out _ _ ⟨HS.out.cell (g := g) (a := (4, ⟨#[66]⟩)) (by simp), HS.out.cell (g := g + 1) (a := (4, ⟨#[67]⟩)) (by simp), HS.out.cell (g := g + 2) (a := (6, ⟨#[]⟩)) (by simp), HL.out⟩ (fun hHeld => ?_)
  clear hKX KX
  try go_frame
  refine wpAnyH_take (i := 33) (oi := _) (v := ?_) (by simp only [List.getElem?_toArray, List.getElem?_cons_succ, List.getElem?_cons_zero]; rfl) (by kernel_rfl) (by kernel_rfl) (by kernel_rfl) (by intro _ _ _ h; exact h) (Or.inl ⟨by rfl, fun W hSw => ?_⟩) hHeld ?_
  rotate_left 1
  · (clear hSw; first | (go_simp; done) | (go_simp; with_reducible rfl))
  try go_frame
  refine wpAnyH_take (i := 34) (oi := _) (v := ?_) (by simp only [List.getElem?_toArray, List.getElem?_cons_succ, List.getElem?_cons_zero]; rfl) (by kernel_rfl) (by kernel_rfl) (by kernel_rfl) (by intro _ _ _ h; exact h) (Or.inl ⟨by rfl, fun W hSw => ?_⟩) hHeld ?_
  rotate_left 1
  · (clear hSw; first | (go_simp; done) | (go_simp; with_reducible rfl))
  try go_frame
  refine wpAnyH_take (i := 35) (oi := _) (v := ?_) (by simp only [List.getElem?_toArray, List.getElem?_cons_succ, List.getElem?_cons_zero]; rfl) (by kernel_rfl) (by kernel_rfl) (by kernel_rfl) (by intro _ _ _ h; exact h) (Or.inl ⟨by rfl, fun W hSw => ?_⟩) hHeld ?_
  rotate_left 1
  · (clear hSw; first | (go_simp; done) | (go_simp; with_reducible rfl))
  try go_frame
  refine wpAnyH_take (i := 36) (oi := _) (v := ?_) (by simp only [List.getElem?_toArray, List.getElem?_cons_succ, List.getElem?_cons_zero]; rfl) (by kernel_rfl) (by kernel_rfl) (by kernel_rfl) (by intro _ _ _ h; exact h) (Or.inl ⟨by rfl, fun W hSw => ?_⟩) hHeld ?_
  rotate_left 1
  · (try dsimp only at hSw); first | (go_simp; done) | (go_simp; with_reducible rfl)
  try go_frame
  refine wpAnyH_take (i := 37) (oi := _) (v := ?_) (by simp only [List.getElem?_toArray, List.getElem?_cons_succ, List.getElem?_cons_zero]; rfl) (by kernel_rfl) (by kernel_rfl) (by kernel_rfl) (by intro _ _ _ h; exact h) (Or.inl ⟨by rfl, fun W hSw => ?_⟩) hHeld ?_
  rotate_left 1
  · (try dsimp only at hSw); first | (go_simp; done) | (go_simp; with_reducible rfl)
  try go_frame
  refine wpAnyH_ready (rs := [38]) (by kernel_rfl) (by simp) ?_
  refine AllReadyH.cons (o := _) (by simp only [List.getElem?_toArray, List.getElem?_cons_succ, List.getElem?_cons_zero]; rfl) (fun KX hKX => ?_) AllReadyH.nil
  clear hHeld
  go_simp
  refine (fits_c HS.out HK.out (by exact sz_small (by decide)) (by exact sz_small (by decide))).mono ?_
  (first | rw [s_na] | rw [s_ai] | rw [s_ba])
  rintro e wn ⟨rfl, hbn⟩
  replace HS := Lib.hid (HS.out.below hbn)
  replace HL := Lib.hid (c2_below HL.out hbn)
  clear hbn
  refine hKX.out _ _ ⟨HS.out.cell (g := g) (a := (4, ⟨#[66]⟩)) (by simp), HS.out.cell (g := g + 1) (a := (4, ⟨#[67]⟩)) (by simp), HS.out.cell (g := g + 2) (a := (6, ⟨#[]⟩)) (by simp), HL.out⟩ (fun hHeld => ?_)
  clear hKX KX
  try go_frame
  refine wpAnyH_take (i := 39) (oi := _) (v := ?_) (by simp only [List.getElem?_toArray, List.getElem?_cons_succ, List.getElem?_cons_zero]; rfl) (by kernel_rfl) (by kernel_rfl) (by kernel_rfl) (by intro _ _ _ h; exact h) (Or.inl ⟨by rfl, fun W hSw => ?_⟩) hHeld ?_
  rotate_left 1
  · (clear hSw; first | (go_simp; done) | (go_simp; with_reducible rfl))
  try go_frame
  refine wpAnyH_take (i := 40) (oi := _) (v := ?_) (by simp only [List.getElem?_toArray, List.getElem?_cons_succ, List.getElem?_cons_zero]; rfl) (by kernel_rfl) (by kernel_rfl) (by kernel_rfl) (by intro _ _ _ h; exact h) (Or.inl ⟨by rfl, fun W hSw => ?_⟩) hHeld ?_
  rotate_left 1
  · (clear hSw; first | (go_simp; done) | (go_simp; with_reducible rfl))
  try go_frame
  refine wpAnyH_take (i := 41) (oi := _) (v := ?_) (by simp only [List.getElem?_toArray, List.getElem?_cons_succ, List.getElem?_cons_zero]; rfl) (by kernel_rfl) (by kernel_rfl) (by kernel_rfl) (by intro _ _ _ h; exact h) (Or.inl ⟨by rfl, fun W hSw => ?_⟩) hHeld ?_
  rotate_left 1
  · (clear hSw; first | (go_simp; done) | (go_simp; with_reducible rfl))
  try go_frame
  refine wpAnyH_take (i := 42) (oi := _) (v := ?_) (by simp only [List.getElem?_toArray, List.getElem?_cons_succ, List.getElem?_cons_zero]; rfl) (by kernel_rfl) (by kernel_rfl) (by kernel_rfl) (by intro _ _ _ h; exact h) (Or.inl ⟨by rfl, fun W hSw => ?_⟩) hHeld ?_
  rotate_left 1
  · (try dsimp only at hSw); first | (go_simp; done) | (go_simp; with_reducible rfl)
  try go_frame
  refine wpAnyH_ready (rs := [43]) (by kernel_rfl) (by simp) ?_
  refine AllReadyH.cons (o := _) (by simp only [List.getElem?_toArray, List.getElem?_cons_succ, List.getElem?_cons_zero]; rfl) (fun KX hKX => ?_) AllReadyH.nil
  clear hHeld
  go_simp
  refine refers_c.mono ?_
  (first | rw [r_n'])
  rintro e wn ⟨rfl, hbn⟩
  replace HS := Lib.hid (HS.out.below hbn)
  replace HL := Lib.hid (c2_below HL.out hbn)
  clear hbn
  refine hKX.out _ _ ⟨HS.out.cell (g := g) (a := (4, ⟨#[66]⟩)) (by simp), HS.out.cell (g := g + 1) (a := (4, ⟨#[67]⟩)) (by simp), HS.out.cell (g := g + 2) (a := (6, ⟨#[]⟩)) (by simp), HL.out⟩ (fun hHeld => ?_)
  clear hKX KX
  try go_frame
  refine wpAnyH_take (i := 44) (oi := _) (v := ?_) (by simp only [List.getElem?_toArray, List.getElem?_cons_succ, List.getElem?_cons_zero]; rfl) (by kernel_rfl) (by kernel_rfl) (by kernel_rfl) (by intro _ _ _ h; exact h) (Or.inl ⟨by rfl, fun W hSw => ?_⟩) hHeld ?_
  rotate_left 1
  · (clear hSw; first | (go_simp; done) | (go_simp; with_reducible rfl))
  try go_frame
  refine wpAnyH_take (i := 45) (oi := _) (v := ?_) (by simp only [List.getElem?_toArray, List.getElem?_cons_succ, List.getElem?_cons_zero]; rfl) (by kernel_rfl) (by kernel_rfl) (by kernel_rfl) (by intro _ _ _ h; exact h) (Or.inl ⟨by rfl, fun W hSw => ?_⟩) hHeld ?_
  rotate_left 1
  · (clear hSw; first | (go_simp; done) | (go_simp; with_reducible rfl))
  try go_frame
  refine wpAnyH_take (i := 46) (oi := _) (v := ?_) (by simp only [List.getElem?_toArray, List.getElem?_cons_succ, List.getElem?_cons_zero]; rfl) (by kernel_rfl) (by kernel_rfl) (by kernel_rfl) (by intro _ _ _ h; exact h) (Or.inl ⟨by rfl, fun W hSw => ?_⟩) hHeld ?_
  rotate_left 1
  · (clear hSw; first | (go_simp; done) | (go_simp; with_reducible rfl))
  try go_frame
  refine wpAnyH_take (i := 47) (oi := _) (v := ?_) (by simp only [List.getElem?_toArray, List.getElem?_cons_succ, List.getElem?_cons_zero]; rfl) (by kernel_rfl) (by kernel_rfl) (by kernel_rfl) (by intro _ _ _ h; exact h) (Or.inl ⟨by rfl, fun W hSw => ?_⟩) hHeld ?_
  rotate_left 1
  · (clear hSw; first | (go_simp; done) | (go_simp; with_reducible rfl))
  try go_frame
  refine wpAnyH_take (i := 48) (oi := _) (v := ?_) (by simp only [List.getElem?_toArray, List.getElem?_cons_succ, List.getElem?_cons_zero]; rfl) (by kernel_rfl) (by kernel_rfl) (by kernel_rfl) (by intro _ _ _ h; exact h) (Or.inl ⟨by rfl, fun W hSw => ?_⟩) hHeld ?_
  rotate_left 1
  · (clear hSw; first | (go_simp; done) | (go_simp; with_reducible rfl))
  try go_frame
  refine wpAnyH_take (i := 49) (oi := _) (v := ?_) (by simp only [List.getElem?_toArray, List.getElem?_cons_succ, List.getElem?_cons_zero]; rfl) (by kernel_rfl) (by kernel_rfl) (by kernel_rfl) (by intro _ _ _ h; exact h) (Or.inl ⟨by rfl, fun W hSw => ?_⟩) hHeld ?_
  rotate_left 1
  · (clear hSw; first | (go_simp; done) | (go_simp; with_reducible rfl))
  try go_frame
  refine wpAnyH_take (i := 50) (oi := _) (v := ?_) (by simp only [List.getElem?_toArray, List.getElem?_cons_succ, List.getElem?_cons_zero]; rfl) (by kernel_rfl) (by kernel_rfl) (by kernel_rfl) (by intro _ _ _ h; exact h) (Or.inl ⟨by rfl, fun W hSw => ?_⟩) hHeld ?_
  rotate_left 1
  · (clear hSw; first | (go_simp; done) | (go_simp; with_reducible rfl))
  try go_frame
  refine wpAnyH_take (i := 51) (oi := _) (v := ?_) (by simp only [List.getElem?_toArray, List.getElem?_cons_succ, List.getElem?_cons_zero]; rfl) (by kernel_rfl) (by kernel_rfl) (by kernel_rfl) (by intro _ _ _ h; exact h) (Or.inl ⟨by rfl, fun W hSw => ?_⟩) hHeld ?_
  rotate_left 1
  · (clear hSw; first | (go_simp; done) | (go_simp; with_reducible rfl))
  try go_frame
  refine wpAnyH_take (i := 52) (oi := _) (v := ?_) (by simp only [List.getElem?_toArray, List.getElem?_cons_succ, List.getElem?_cons_zero]; rfl) (by kernel_rfl) (by kernel_rfl) (by kernel_rfl) (by intro _ _ _ h; exact h) (Or.inl ⟨by rfl, fun W hSw => ?_⟩) hHeld ?_
  rotate_left 1
  · (clear hSw; first | (go_simp; done) | (go_simp; with_reducible rfl))
  try go_frame
  refine wpAnyH_take (i := 53) (oi := _) (v := ?_) (by simp only [List.getElem?_toArray, List.getElem?_cons_succ, List.getElem?_cons_zero]; rfl) (by kernel_rfl) (by kernel_rfl) (by kernel_rfl) (by intro _ _ _ h; exact h) (Or.inl ⟨by rfl, fun W hSw => ?_⟩) hHeld ?_
  rotate_left 1
  · (clear hSw; first | (go_simp; done) | (go_simp; with_reducible rfl))
  try go_frame
  refine wpAnyH_take (i := 54) (oi := _) (v := ?_) (by simp only [List.getElem?_toArray, List.getElem?_cons_succ, List.getElem?_cons_zero]; rfl) (by kernel_rfl) (by kernel_rfl) (by kernel_rfl) (by intro _ _ _ h; exact h) (Or.inl ⟨by rfl, fun W hSw => ?_⟩) hHeld ?_
  rotate_left 1
  · (clear hSw; first | (go_simp; done) | (go_simp; with_reducible rfl))
  try go_frame
  refine wpAnyH_take (i := 55) (oi := _) (v := ?_) (by simp only [List.getElem?_toArray, List.getElem?_cons_succ, List.getElem?_cons_zero]; rfl) (by kernel_rfl) (by kernel_rfl) (by kernel_rfl) (by intro _ _ _ h; exact h) (Or.inl ⟨by rfl, fun W hSw => ?_⟩) hHeld ?_
  rotate_left 1
  · (clear hSw; first | (go_simp; done) | (go_simp; with_reducible rfl))
  try go_frame
  refine wpAnyH_take (i := 56) (oi := _) (v := ?_) (by simp only [List.getElem?_toArray, List.getElem?_cons_succ, List.getElem?_cons_zero]; rfl) (by kernel_rfl) (by kernel_rfl) (by kernel_rfl) (by intro _ _ _ h; exact h) (Or.inl ⟨by rfl, fun W hSw => ?_⟩) hHeld ?_
  rotate_left 1
  · (try dsimp only at hSw); first | (go_simp; done) | (go_simp; with_reducible rfl)
  try go_frame
  refine wpAnyH_take (i := 57) (oi := _) (v := ?_) (by simp only [List.getElem?_toArray, List.getElem?_cons_succ, List.getElem?_cons_zero]; rfl) (by kernel_rfl) (by kernel_rfl) (by kernel_rfl) (by intro _ _ _ h; exact h) (Or.inl ⟨by rfl, fun W hSw => ?_⟩) hHeld ?_
  rotate_left 1
  · (try dsimp only at hSw); first | (go_simp; done) | (go_simp; with_reducible rfl)
  try go_frame
  refine wpAnyH_take (i := 58) (oi := _) (v := ?_) (by simp only [List.getElem?_toArray, List.getElem?_cons_succ, List.getElem?_cons_zero]; rfl) (by kernel_rfl) (by kernel_rfl) (by kernel_rfl) (by intro _ _ _ h; exact h) (Or.inl ⟨by rfl, fun W hSw => ?_⟩) hHeld ?_
  rotate_left 1
  · (clear hSw; first | (go_simp; done) | (go_simp; with_reducible rfl))
  try go_frame
  refine wpAnyH_take (i := 59) (oi := _) (v := ?_) (by simp only [List.getElem?_toArray, List.getElem?_cons_succ, List.getElem?_cons_zero]; rfl) (by kernel_rfl) (by kernel_rfl) (by kernel_rfl) (by intro _ _ _ h; exact h) (Or.inl ⟨by rfl, fun W hSw => ?_⟩) hHeld ?_
  rotate_left 1
  · (clear hSw; first | (go_simp; done) | (go_simp; with_reducible rfl))
  try go_frame
  refine wpAnyH_take (i := 60) (oi := _) (v := ?_) (by simp only [List.getElem?_toArray, List.getElem?_cons_succ, List.getElem?_cons_zero]; rfl) (by kernel_rfl) (by kernel_rfl) (by kernel_rfl) (by intro _ _ _ h; exact h) (Or.inl ⟨by rfl, fun W hSw => ?_⟩) hHeld ?_
  rotate_left 1
  · (clear hSw; first | (go_simp; done) | (go_simp; with_reducible rfl))
  try go_frame
  refine wpAnyH_take (i := 61) (oi := _) (v := ?_) (by simp only [List.getElem?_toArray, List.getElem?_cons_succ, List.getElem?_cons_zero]; rfl) (by kernel_rfl) (by kernel_rfl) (by kernel_rfl) (by intro _ _ _ h; exact h) (Or.inl ⟨by rfl, fun W hSw => ?_⟩) hHeld ?_
  rotate_left 1
  · (clear hSw; first | (go_simp; done) | (go_simp; with_reducible rfl))
  try go_frame
  refine wpAnyH_take (i := 62) (oi := _) (v := ?_) (by simp only [List.getElem?_toArray, List.getElem?_cons_succ, List.getElem?_cons_zero]; rfl) (by kernel_rfl) (by kernel_rfl) (by kernel_rfl) (by intro _ _ _ h; exact h) (Or.inl ⟨by rfl, fun W hSw => ?_⟩) hHeld ?_
  rotate_left 1
  · (clear hSw; first | (go_simp; done) | (go_simp; with_reducible rfl))
  try go_frame
  refine wpAnyH_take (i := 63) (oi := _) (v := ?_) (by simp only [List.getElem?_toArray, List.getElem?_cons_succ, List.getElem?_cons_zero]; rfl) (by kernel_rfl) (by kernel_rfl) (by kernel_rfl) (by intro _ _ _ h; exact h) (Or.inl ⟨by rfl, fun W hSw => ?_⟩) hHeld ?_
  rotate_left 1
  · (clear hSw; first | (go_simp; done) | (go_simp; with_reducible rfl))
  try go_frame
  refine wpAnyH_take (i := 64) (oi := _) (v := ?_) (by simp only [List.getElem?_toArray, List.getElem?_cons_succ, List.getElem?_cons_zero]; rfl) (by kernel_rfl) (by kernel_rfl) (by kernel_rfl) (by intro _ _ _ h; exact h) (Or.inl ⟨by rfl, fun W hSw => ?_⟩) hHeld ?_
  rotate_left 1
  · (clear hSw; first | (go_simp; done) | (go_simp; with_reducible rfl))
  try go_frame
  refine wpAnyH_done (by kernel_rfl) ?_ _
  go_wp2_with fail
  go_ret
  exact ⟨rfl, HB2.out.trans (HS.out.2.2.mono HB2.out.size)⟩
end Go.Proofs.Ytdjciahaohfohaa.R
namespace Go.Proofs.Ytdjciahaohfohaa.R
open Go.RowKit Go.Proofs.Ytdjciahaohfohaa.D Go.Proofs.Ytdjciahaohfohaa.O Go.Proofs.Ytdjciahaohfohaa.A
theorem rd_place6 {w : World} {p : Option Addr} {n c i : Nat} {l : List UInt8} {x : UInt8} (h : Rd w (.slice p n c) l) (hx : l[i]? = some x) : ∃ a : Addr, p = some a ∧ w.cell? (a.add i) = some (.int .u8 (x.toNat : Int)) := by
  obtain ⟨p', c', e, hle, hn, hc⟩ := h
  simp only [Value.slice.injEq] at e
  obtain ⟨rfl, rfl, rfl⟩ := e
  have hi := (List.getElem?_eq_some_iff.1 hx).1
  cases p with
  | none =>
    have := hn rfl
    omega
  | some a => exact ⟨a, rfl, hc a rfl i x hx⟩
abbrev OT (W : World) (B : Nat) (v : Value) (A : List Ty) : Prop := OwnX 2 24 (sP tyC) W B v A
def TwoO (W : World) (B : Nat) (va vb : Value) (A L : List Ty) : Prop := OT W B va A ∧ OT W B vb L ∧ ∀ g, va.ownBlock = some g → vb.ownBlock = some g → False
theorem TwoO.symm {W : World} {B : Nat} {va vb : Value} {A L : List Ty} (h : TwoO W B va vb A L) : TwoO W B vb va L A := ⟨h.2.1, h.1, fun g a b => h.2.2 g b a⟩
theorem TwoO.below {W W' : World} {B : Nat} {va vb : Value} {A L : List Ty} (h : TwoO W B va vb A L) (hb : Below W.heap.size W W') : TwoO W' B va vb A L :=
  ⟨h.1.kptS (.of_below hb : Kpt [] _ _) (by simp), h.2.1.kptS (.of_below hb : Kpt [] _ _) (by simp), h.2.2⟩
theorem TwoO.appA {W W' : World} {B : Nat} {va vb va' : Value} {A L A' : List Ty} (h : TwoO W B va vb A L) (ho : OT W' B va' A') (hg : W.grownBy W' va.ownBlock) (hl : va'.ownBlock = va.ownBlock ∨ va'.ownBlock = some W.heap.size) : TwoO W' B va' vb A' L := by
  refine ⟨ho, h.2.1.kptS (S := va.ownBlock.toList) (Kpt.of_grown hg (fun g e => .inl (by rw [e]; simp))) (fun g e hm => h.2.2 g (by simpa using hm) e), fun g e1 e2 => ?_⟩
  rcases hl with hl | hl
  · exact h.2.2 g (hl.symm.trans e1) e2
  · have h1 := (h.2.1.lt g e2).2
    rw [hl] at e1
    cases e1
    omega
theorem TwoO.appB {W W' : World} {B : Nat} {va vb vb' : Value} {A L L' : List Ty} (h : TwoO W B va vb A L) (ho : OT W' B vb' L') (hg : W.grownBy W' vb.ownBlock) (hl : vb'.ownBlock = vb.ownBlock ∨ vb'.ownBlock = some W.heap.size) : TwoO W' B va vb' A L' := (h.symm.appA ho hg hl).symm
theorem grown_bel {W W' : World} {B : Nat} {v : Value} {A : List Ty} (ho : OT W B v A) (hg : W.grownBy W' v.ownBlock) (hB : B ≤ W.heap.size) : Below B W W' :=
  (Kpt.of_grown (S := v.ownBlock.toList) hg (fun g e => .inl (by rw [e]; simp))).below (fun x hx => (ho.lt x (by simpa using hx)).1) hB
def tyL (s : ByteArray) (l : List UInt8) : List Ty := l.map fun x => ofJ x.toNat s
theorem tyL_next {s : ByteArray} {l : List UInt8} {i : Nat} {x : UInt8} (h : l[i]? = some x) : tyL s (l.take i) ++ [ofJ x.toNat s] = tyL s (l.take (i + 1)) := by
  unfold tyL
  rw [List.take_add_one, h, List.map_append]
  rfl
theorem tyL_len (s : ByteArray) (l : List UInt8) : (tyL s l).length = l.length := by unfold tyL; simp
theorem tyL_sz {s : ByteArray} {l : List UInt8} {B : Nat} (hB : 9 ≤ B) (hs : s.size ≤ B) : ∀ t ∈ tyL s l, t.2.size ≤ B := by
  intro t ht
  obtain ⟨x, -, rfl⟩ := List.mem_map.1 ht
  show (ofJ x.toNat s).2.size ≤ B
  unfold ofJ
  split
  · have key : ∀ i : Fin 12, (nmJ.getD i.val es).size ≤ 9 := by decide
    exact Nat.le_trans (key ⟨x.toNat % 12, Nat.mod_lt _ (by decide)⟩) hB
  · have h8 := Nat.mod_lt x.toNat (show 0 < 8 by decide)
    have h9 : x.toNat % 8 = 0 ∨ x.toNat % 8 = 1 ∨ x.toNat % 8 = 2 ∨ x.toNat % 8 = 3 ∨ x.toNat % 8 = 4 ∨ x.toNat % 8 = 5 ∨ x.toNat % 8 = 6 ∨ x.toNat % 8 = 7 := by omega
    rcases h9 with e | e | e | e | e | e | e | e <;> rw [e] <;> first | exact hs | exact Nat.zero_le _
end Go.Proofs.Ytdjciahaohfohaa.R
namespace Go.Proofs.Ytdjciahaohfohaa.S
open Go.RowKit Go.Maps
theorem hasB_none {α : Type} [DecidableEq α] {l : List α} {x : α} (h : ∀ i, i < l.length → l[i]? ≠ some x) : hasB l x = false := hasB_out (fun hx => by
  obtain ⟨i, hi, e⟩ := List.mem_iff_getElem.1 hx
  exact h i hi (by rw [List.getElem?_eq_getElem hi, e]))
set_option maxHeartbeats 400000 in
set_option maxRecDepth 100000 in
theorem in_S (v : Value) (xs : List ByteArray) (x : ByteArray) (ok : Nat → Prop) (w : World) (hr : RdC cS ok w v xs) (hl : xs.length ≤ 100000) :
    Calls Try.prog 59 #[v, .string x] w fun e w' => e = .returned (.bool (hasB xs x)) ∧ w = w' := by
  obtain ⟨p, cap, rfl, h1, h2⟩ := hr.form
  have HR := Lib.hid hr
  clear hr
  go_enter Try.func59, Try.ntmps59
  go_wp2_with fail
  go_loopw [5] (fun v wr => ∃ i : Nat, v = .int .i64 (i : Int) ∧ i ≤ xs.length ∧ Hid (∀ k, k < i → xs[k]? ≠ some x) ∧ w = wr) (fun v _ => xs.length - (intOf v).toNat)
  case atStart => exact ⟨0, rfl, by omega, Lib.hid (fun k hk => absurd hk (by omega)), rfl⟩
  case round =>
    obtain ⟨i, rfl, hi, HA, rfl⟩ := hrel
    by_cases hlt : i < xs.length
    · have hlt' : (i : Int) < (xs.length : Int) := by omega
      have hne : xs ≠ [] := by rintro rfl; simp at hlt
      obtain ⟨b, off, rfl, hb, hbl, hc⟩ := HR.out.at hne
      have hg := List.getElem?_eq_getElem hlt
      have ci : w.cell? ⟨b, off + i, none⟩ = some (.string xs[i]) := hc i _ hg
      obtain ⟨y, hy⟩ : ∃ y, xs[i] = y := ⟨_, rfl⟩
      rw [hy] at ci hg
      have HG := Lib.hid hg
      clear hc hy hg
      by_cases e : y = x
      · subst e
        go_wp2
        go_ret
        exact ⟨ret_bool (hasB_in (List.mem_of_getElem? HG.out)).symm, rfl⟩
      · have hne2 : (y.toList == x.toList) = false := txt_ne e
        go_wp2_with fail
        go_roundw
        case rel => exact ⟨i + 1, by go_num, by omega, Lib.hid (fun k hk => by
          by_cases e2 : k = i
          · subst e2
            rw [HG.out]
            exact fun h => e (by cases h; rfl)
          · exact HA.out k (by omega)), trivial⟩
        case measure => simp [intOf]; omega
    · obtain rfl : i = xs.length := by omega
      clear hlt hi
      go_wp2
      go_ret
      exact ⟨ret_bool (hasB_none HA.out).symm, rfl⟩
end Go.Proofs.Ytdjciahaohfohaa.S
namespace Go.Proofs.Ytdjciahaohfohaa.R
open Go.RowKit Go.Proofs.Ytdjciahaohfohaa.D Go.Proofs.Ytdjciahaohfohaa.O Go.Proofs.Ytdjciahaohfohaa.A
theorem rdX_rdc {ok : Nat → Prop} {w : World} {p : Option Addr} {n c : Nat} {ys : List ByteArray} (h : RdX 1 (sP strC) ok w (.slice p n c) ys) (hc : c ≤ maxLen) : S.RdC S.cS ok w (.slice p n c) ys := by
  have h0 := h
  obtain ⟨p', c', e, h1, h2, h3⟩ := h
  simp only [Value.slice.injEq] at e
  obtain ⟨rfl, rfl, rfl⟩ := e
  refine ⟨_, _, rfl, h1, h2, hc, ?_⟩
  rcases h3 with h3 | ⟨b, off, rfl, hb, hl, _⟩
  · exact .inl h3
  · refine .inr ⟨b, off, rfl, hb, hl, fun i y hy => ?_⟩
    obtain ⟨b', off', e', _, _, _, _, hc'⟩ := rdX_at h0 hy
    cases e'
    exact hc'
end Go.Proofs.Ytdjciahaohfohaa.R
namespace Go.Proofs.Ytdjciahaohfohaa.R
open Go.RowKit Go.Proofs.Ytdjciahaohfohaa.D Go.Proofs.Ytdjciahaohfohaa.O Go.Proofs.Ytdjciahaohfohaa.A
def sevT : List ByteArray := objT :: fltT :: fivT
theorem sev_blt (n : ByteArray) : S.hasB sevT n = (bltS n).isSome := by
  unfold bltS
  by_cases h1 : n = objT
  · rw [if_pos h1]; exact S.hasB_in (by rw [h1]; exact List.mem_cons_self)
  · rw [if_neg h1]
    by_cases h2 : n = fltT
    · rw [if_pos h2]; exact S.hasB_in (by rw [h2]; exact List.mem_cons_of_mem _ List.mem_cons_self)
    · rw [if_neg h2]
      by_cases h3 : S.hasB fivT n = true
      · rw [if_pos h3]; exact S.hasB_in (List.mem_cons_of_mem _ (List.mem_cons_of_mem _ (by by_cases hm : n ∈ fivT; exact hm; rw [S.hasB_out hm] at h3; cases h3)))
      · rw [if_neg h3]
        refine S.hasB_out (fun hm => ?_)
        rcases List.mem_cons.1 hm with e | hm
        · exact h1 e
        · rcases List.mem_cons.1 hm with e | hm
          · exact h2 e
          · exact h3 (S.hasB_in hm)
set_option maxHeartbeats 4000000 in
set_option maxRecDepth 100000 in
theorem Builtin_r (n : ByteArray) (w : World) : Calls Try.prog 81 #[.string n] w fun e w' => e = .returned (.bool (bltS n).isSome) ∧ Below w.heap.size w w' := by
  have HR : Hid (RdX 1 (sP strC) anyB (w.alloc (.cells #[.string ⟨#[79, 98, 106, 101, 99, 116]⟩, .string ⟨#[70, 97, 117, 108, 116]⟩, .string ⟨#[78, 117, 108, 108, 70, 97, 117, 108, 116]⟩, .string ⟨#[66, 111, 117, 110, 100, 115, 70, 97, 117, 108, 116]⟩, .string ⟨#[67, 97, 115, 116, 70, 97, 117, 108, 116]⟩, .string ⟨#[90, 101, 114, 111, 70, 97, 117, 108, 116]⟩, .string ⟨#[83, 105, 122, 101, 70, 97, 117, 108, 116]⟩] 9)) (.slice (some ⟨w.heap.size, 0, none⟩) 7 7) sevT) := Lib.hid (rdX_lits (sz := 1) (c := strC) (fun _ => rfl) w sevT _ _ rfl)
  go_enter Try.func81, Try.ntmps81
  go_wp2_with fail
  refine (S.in_S _ sevT n _ _ (rdX_rdc HR.out (by unfold maxLen; omega)) (by decide)).mono ?_
  rintro e w1 ⟨rfl, rfl⟩
  rw [sev_blt]
  go_wp2_with fail
  go_ret
  exact ⟨rfl, below_alR _ _⟩
set_option maxHeartbeats 4000000 in
set_option maxRecDepth 100000 in
theorem superB_r (v : Value) (n s : ByteArray) (w : World) (h : bltS n = some s) : Calls Try.prog 75 #[v, .string n] w fun e w' => e = .returned (.string s) ∧ Below w.heap.size w w' := by
  by_cases h1 : n = objT
  · have e1 : (n.toList == [79, 98, 106, 101, 99, 116]) = true := by rw [h1]; decide +kernel
    have e2 : s = ⟨#[]⟩ := by
      unfold bltS at h
      rw [if_pos h1] at h
      exact (Option.some.inj h).symm
    subst e2
    go_enter Try.func75, Try.ntmps75
    clear h1 h
    go_wp2_with fail
    go_ret
    exact ⟨rfl, Below.refl _ _⟩
  · have e1 : (n.toList == [79, 98, 106, 101, 99, 116]) = false := by
      rw [show ([79, 98, 106, 101, 99, 116] : List UInt8) = objT.toList from by decide +kernel]
      exact Go.Proofs.Ytdjciahaohfohaa.txt_ne h1
    by_cases h2 : n = fltT
    · have e2 : (n.toList == [70, 97, 117, 108, 116]) = true := by rw [h2]; decide +kernel
      have e3 : s = ⟨#[79, 98, 106, 101, 99, 116]⟩ := by
        unfold bltS at h
        rw [if_neg h1, if_pos h2] at h
        exact (Option.some.inj h).symm
      subst e3
      go_enter Try.func75, Try.ntmps75
      clear h1 h2 h
      go_wp2_with fail
      go_ret
      exact ⟨rfl, Below.refl _ _⟩
    · have e2 : (n.toList == [70, 97, 117, 108, 116]) = false := by
        rw [show ([70, 97, 117, 108, 116] : List UInt8) = fltT.toList from by decide +kernel]
        exact Go.Proofs.Ytdjciahaohfohaa.txt_ne h2
      have e3 : s = ⟨#[70, 97, 117, 108, 116]⟩ := by
        unfold bltS at h
        rw [if_neg h1, if_neg h2] at h
        split at h
        · exact (Option.some.inj h).symm
        · cases h
      have hs : (bltS n).isSome = true := by rw [h]; rfl
      subst e3
      go_enter Try.func75, Try.ntmps75
      clear h1 h2 h
      go_wp2_with fail
      refine (Builtin_r n w).mono ?_
      rw [hs]
      rintro e w1 ⟨rfl, hb⟩
      go_wp2_with fail
      go_ret
      exact ⟨rfl, hb⟩
end Go.Proofs.Ytdjciahaohfohaa.R
