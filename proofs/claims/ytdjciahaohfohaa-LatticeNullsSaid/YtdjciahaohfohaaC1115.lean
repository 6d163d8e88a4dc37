/- Texts that the proof is made of, joined. No condition. -/
import Derived.Test.YtdjciahaohfohaaC1111
import Derived.Test.YtdjciahaohfohaaC112
import Derived.Test.YtdjciahaohfohaaC1110
import Derived.Test.YtdjciahaohfohaaC113
import Derived.Test.YtdjciahaohfohaaC114
import Derived.Test.YtdjciahaohfohaaC1114
import Derived.Deep.DeepCutAuto
import Derived.Deep.CutBlock
import Derived.Test.YtdjciahaohfohaaC110
import Derived.ProofKit
import Derived.Test.YtdjciahaohfohaaC111
import Derived.Laws.IdiomArrays
import Derived.SizedLaws
import Derived.Lib.SmallJoins
import Derived.Test.YtdjciahaohfohaaC11H
set_option linter.unusedVariables false
set_option linter.unusedSimpArgs false
set_option maxRecDepth 100000
set_option maxHeartbeats 16000000
namespace Go.Proofs.Ytdjciahaohfohaa.R
open Go.RowKit Go.Proofs.Ytdjciahaohfohaa.D Go.Proofs.Ytdjciahaohfohaa.O Go.Proofs.Ytdjciahaohfohaa.A
theorem Join_y (ok : Nat → Prop) (tb mt : Nat) (vs : Value) (K : List Cls) (a b : Ty) (w : World) (h : TrW w ok tb mt vs K) (ha : a.2.size ≤ maxLen) (hb : b.2.size ≤ maxLen) :
    Calls Try.prog 12 #[.pointer (some ⟨tb, 0, none⟩), tyv a, tyv b] w fun e w' => e = .returned (tyv (joinT (K.map skOf) a b)) ∧ Below w.heap.size w w' :=
  Join_n ok _ K a b w (.inl ⟨tb, mt, vs, rfl, h⟩) ha hb
theorem Fits_y (ok : Nat → Prop) (tb mt : Nat) (vs : Value) (K : List Cls) (a b : Ty) (w : World) (h : TrW w ok tb mt vs K) (ha : a.2.size ≤ maxLen) (hb : b.2.size ≤ maxLen) :
    Calls Try.prog 14 #[.pointer (some ⟨tb, 0, none⟩), tyv a, tyv b] w fun e w' => e = .returned (.bool (fitsT (K.map skOf) a b)) ∧ Below w.heap.size w w' :=
  Fits_n ok _ K a b w (.inl ⟨tb, mt, vs, rfl, h⟩) ha hb
theorem All_y (ok ok1 ok2 : Nat → Prop) (tb mt : Nat) (vs : Value) (K : List Cls) (va vb : Value) (a b : List Ty) (w : World) (h : TrW w ok tb mt vs K) (hra : RdX 2 (sP tyC) ok1 w va a) (hrb : RdX 2 (sP tyC) ok2 w vb b) (hza : ∀ t ∈ a, t.2.size ≤ maxLen) (hzb : ∀ t ∈ b, t.2.size ≤ maxLen) (hla : a.length ≤ 100000) (_hlb : b.length ≤ 100000) :
    Calls Try.prog 18 #[.pointer (some ⟨tb, 0, none⟩), va, vb] w fun e w' => ∃ v, e = .returned (.tuple #[v, .bool (decide (a.length = b.length))]) ∧ OwnX 2 24 (sP tyC) w' w.heap.size v (if a.length = b.length then allT (K.map skOf) a b else []) ∧ Below w.heap.size w w' :=
  All_n ok ok1 ok2 _ K va vb a b w (.inl ⟨tb, mt, vs, rfl, h⟩) hra hrb hza hzb hla
end Go.Proofs.Ytdjciahaohfohaa.R
namespace Go.Proofs.Ytdjciahaohfohaa.R
open Go.RowKit Go.Proofs.Ytdjciahaohfohaa.D Go.Proofs.Ytdjciahaohfohaa.O Go.Proofs.Ytdjciahaohfohaa.A
def TyB (W : World) (p : Nat × Ty) : Prop := W.heap[p.1]? = some (.cells #[.int .i64 p.2.1, .string p.2.2] 24 (0, 0))
def StJ (w W : World) (ok : Nat → Prop) (tb mt : Nat) (vs : Value) (K : List Cls) (L : List (Nat × Ty)) : Prop := TrW W ok tb mt vs K ∧ (∀ p ∈ L, TyB W p) ∧ Below w.heap.size w W
theorem StJ.below {w W W' : World} {ok : Nat → Prop} {tb mt : Nat} {vs : Value} {K : List Cls} {L : List (Nat × Ty)} (h : StJ w W ok tb mt vs K L) (hb : Below W.heap.size W W') : StJ w W' ok tb mt vs K L :=
  ⟨h.1.below hb, fun p hp => (hb.block _ (Array.getElem?_eq_some_iff.1 (h.2.1 p hp)).1).trans (h.2.1 p hp), h.2.2.trans (hb.mono h.2.2.size)⟩
theorem StJ.cell {w W : World} {ok : Nat → Prop} {tb mt : Nat} {vs : Value} {K : List Cls} {L : List (Nat × Ty)} (h : StJ w W ok tb mt vs K L) {g : Nat} {a : Ty} (hp : (g, a) ∈ L) : g < W.heap.size ∧ W.cell? ⟨g, 0, none⟩ = some (.int .i64 a.1) ∧ W.cell? ⟨g, 1, none⟩ = some (.string a.2) := by
  have hx : W.heap[g]? = _ := h.2.1 _ hp
  exact ⟨(Array.getElem?_eq_some_iff.1 hx).1, by simp [World.cell?, hx], by simp [World.cell?, hx]⟩
theorem StJ.box {w W : World} {ok : Nat → Prop} {tb mt : Nat} {vs : Value} {K : List Cls} {L : List (Nat × Ty)} (h : StJ w W ok tb mt vs K L) (a : Ty) : StJ w (W.alloc (.cells #[.int .i64 a.1, .string a.2] 24)) ok tb mt vs K ((W.heap.size, a) :: L) :=
  ⟨(h.below (below_alR _ _)).1, fun p hp => by
    rcases List.mem_cons.1 hp with rfl | hp
    · exact heap_alloc_new _ _
    · exact (h.below (below_alR _ _)).2.1 p hp, (h.below (below_alR _ _)).2.2⟩
theorem fits_c {w W : World} {ok : Nat → Prop} {tb mt : Nat} {vs : Value} {K : List Cls} {L : List (Nat × Ty)} {T : List Sk} {k1 k2 : Int} {s1 s2 : ByteArray} (h : StJ w W ok tb mt vs K L) (hk : K.map skOf = T) (ha : s1.size ≤ maxLen) (hb : s2.size ≤ maxLen) :
    Calls Try.prog 14 #[.pointer (some ⟨tb, 0, none⟩), .agg #[.int .i64 k1, .string s1], .agg #[.int .i64 k2, .string s2]] W fun e w' => e = .returned (.bool (fitsT T (k1, s1) (k2, s2))) ∧ Below W.heap.size W w' := by
  have := Fits_y ok tb mt vs K (k1, s1) (k2, s2) W h.1 ha hb
  rw [hk] at this
  exact this
theorem join_c {w W : World} {ok : Nat → Prop} {tb mt : Nat} {vs : Value} {K : List Cls} {L : List (Nat × Ty)} {T : List Sk} {k1 k2 : Int} {s1 s2 : ByteArray} (h : StJ w W ok tb mt vs K L) (hk : K.map skOf = T) (ha : s1.size ≤ maxLen) (hb : s2.size ≤ maxLen) :
    Calls Try.prog 12 #[.pointer (some ⟨tb, 0, none⟩), .agg #[.int .i64 k1, .string s1], .agg #[.int .i64 k2, .string s2]] W fun e w' => e = .returned (tyv (joinT T (k1, s1) (k2, s2))) ∧ Below W.heap.size W w' := by
  have := Join_y ok tb mt vs K (k1, s1) (k2, s2) W h.1 ha hb
  rw [hk] at this
  exact this
theorem refers_c {W : World} {k : Int} {s : ByteArray} : Calls Try.prog 16 #[.agg #[.int .i64 k, .string s]] W fun e w' => e = .returned (.bool (refB (k, s))) ∧ Below W.heap.size W w' := Refers_y (k, s) W
theorem tyv_eta (a : Ty) : tyv a = .agg #[.int .i64 a.1, .string a.2] := rfl
theorem ty_sz : ∀ t ∈ tyJ, t.2.size ≤ 1000 := by decide
theorem sz_at {i : Nat} {a : Ty} (h : tyJ[i]? = some a) : a.2.size ≤ maxLen := sz_small (ty_sz _ (List.mem_of_getElem? h))
theorem seat_tree (k0 k1 k2 k3 : Nat) (w : World) (p : Option Addr) (c : Nat) (ok : Nat → Prop) (hr : RdX 6 cP ok w (.slice p (archS k0 k1 k2 k3 [] []).length c) (archS k0 k1 k2 k3 [] [])) :
    Calls Try.prog 10 #[.agg #[.slice p (archS k0 k1 k2 k3 [] []).length c]] w fun e w' => ∃ tb mb vs ok' K, e = .returned (.pointer (some ⟨tb, 0, none⟩)) ∧ K.map skOf = tabT (bitS k0 3) (bitS k0 6) (bitS k2 2) ∧ StJ w w' ok' tb mb vs K [] :=
  (New_t _ _ _ _ w hr (seat_sz8 k0 k1 k2 k3) (seat_few k0 k1 k2 k3)).mono (fun e w' ⟨tb, mb, vs, he, ht, hb⟩ => ⟨tb, mb, vs, _, _, he, seat_kept k0 k1 k2 k3, ht, (fun _ hp => by cases hp), hb⟩)
end Go.Proofs.Ytdjciahaohfohaa.R
namespace Go.Proofs.Ytdjciahaohfohaa.R
open Go.RowKit Go.Proofs.Ytdjciahaohfohaa.D Go.Proofs.Ytdjciahaohfohaa.O Go.Proofs.Ytdjciahaohfohaa.A
theorem c2_below {W W' : World} {g : Nat} {u v : Value} (h : g < W.heap.size ∧ W.cell? ⟨g, 0, none⟩ = some u ∧ W.cell? ⟨g, 1, none⟩ = some v) (hb : Below W.heap.size W W') : g < W'.heap.size ∧ W'.cell? ⟨g, 0, none⟩ = some u ∧ W'.cell? ⟨g, 1, none⟩ = some v := by
  have e := hb.block g h.1
  exact ⟨Nat.lt_of_lt_of_le h.1 hb.size, by rw [← h.2.1]; simp only [World.cell?, e], by rw [← h.2.2]; simp only [World.cell?, e]⟩
theorem fld_0 (k : Int) (s : ByteArray) (W : World) : (Instr.field 24 (.agg #[.int .i64 k, .string s]) 0).run Try.prog W = .ok (.int .i64 k) W := by kernel_rfl
theorem fld_1 (k : Int) (s : ByteArray) (W : World) : (Instr.field 24 (.agg #[.int .i64 k, .string s]) 1).run Try.prog W = .ok (.string s) W := by kernel_rfl
theorem y_ab : joinT (tabT false false false) (4, ⟨#[66]⟩) (4, ⟨#[67]⟩) = (4, ⟨#[66, 97, 115, 101]⟩) := by decide +kernel
theorem y_na : joinT (tabT false false false) (6, ⟨#[]⟩) (4, ⟨#[66]⟩) = (4, ⟨#[66]⟩) := by decide +kernel
theorem y_ai : joinT (tabT false false false) (4, ⟨#[66]⟩) (1, ⟨#[]⟩) = (7, ⟨#[]⟩) := by decide +kernel
theorem y_all : allT (tabT false false false) [(4, ⟨#[66]⟩)] [(6, ⟨#[]⟩)] = [(4, ⟨#[66]⟩)] := by decide +kernel
theorem z_na : fitsT (tabT false false false) (6, ⟨#[]⟩) (4, ⟨#[66]⟩) = true := by decide +kernel
theorem z_ai : fitsT (tabT false false false) (4, ⟨#[66]⟩) (4, ⟨#[73]⟩) = true := by decide +kernel
theorem z_ba : fitsT (tabT false false false) (4, ⟨#[67]⟩) (4, ⟨#[66]⟩) = false := by decide +kernel
theorem r_n : refB (6, ⟨#[]⟩) = true := by decide +kernel
set_option maxHeartbeats 8000000 in
set_option maxRecDepth 100000 in
theorem known_11 (w : World) : Calls Try.prog 8 #[] w fun e w' => e = .returned (.bool true) ∧ Below w.heap.size w w' := by
  go_enter Try.func8, Try.ntmps8
  try simp only [List.append_eq, List.cons_append, List.nil_append]
  go_wp2_with fail
  refine (archive_0 0 0 0 0 w (by decide) (by decide) (by decide) (by decide)).mono ?_
  rintro e w2 ⟨p1, n1, c1, rfl, hr1, hb2⟩
  obtain ⟨_, _, e1, -⟩ := hr1.len
  simp only [Value.slice.injEq] at e1
  obtain ⟨rfl, rfl, rfl⟩ := e1
  have HR1 := Lib.hid hr1
  have HB2 := Lib.hid hb2
  clear hr1 hb2
  go_wp2_with fail
  refine (seat_tree 0 0 0 0 w2 _ _ _ HR1.out).mono ?_
  rintro e wn ⟨tb, mb, vs, ok, K, rfl, hk3, hs3⟩
  have HS := Lib.hid hs3
  have HK : Hid (K.map skOf = (tabT false false false)) := Lib.hid hk3
  clear hk3 hs3 HR1
  go_upto_region 3 with fail
  obtain ⟨wj, hwj⟩ : ∃ x, x = (((wn.alloc (.cells #[.int .i64 4, .string ⟨#[66]⟩] 24)).alloc (.cells #[.int .i64 4, .string ⟨#[67]⟩] 24)).alloc (.cells #[.int .i64 6, .string ⟨#[]⟩] 24)) := ⟨_, rfl⟩
  have hsj : StJ w2 wj ok tb mb vs K [(wn.heap.size + 2, (6, ⟨#[]⟩)), (wn.heap.size + 1, (4, ⟨#[67]⟩)), (wn.heap.size, (4, ⟨#[66]⟩))] := by
    rw [hwj]
    have := (((HS.out.box (4, ⟨#[66]⟩)).box (4, ⟨#[67]⟩)).box (6, ⟨#[]⟩))
    simp only [World.size_alloc] at this
    exact this
  rw [← hwj]
  clear hwj
  obtain ⟨g, hg⟩ : ∃ z, wn.heap.size = z := ⟨_, rfl⟩
  rw [hg] at hsj ⊢
  replace HS := Lib.hid hsj
  clear hg hsj
  obtain ⟨al, a0, a1⟩ := HS.out.cell (g := g) (a := (4, ⟨#[66]⟩)) (by simp)
  obtain ⟨bl, b0, b1⟩ := HS.out.cell (g := g + 1) (a := (4, ⟨#[67]⟩)) (by simp)
  obtain ⟨nl, n0, n1⟩ := HS.out.cell (g := g + 2) (a := (6, ⟨#[]⟩)) (by simp)
  try dsimp only at a0 a1 b0 b1 n0 n1
  have HP : Hid (RdX 2 (sP tyC) anyB (wj.alloc (.cells #[.int .i64 4, .string ⟨#[66]⟩] 24)) (.slice (some ⟨wj.heap.size, 0, none⟩) 1 1) [((4, ⟨#[66]⟩) : Ty)]) := Lib.hid (rdX_lit1 (sz := 2) (c := tyC) (fun _ => rfl) wj _ _ _ rfl)
  have HQ : Hid (RdX 2 (sP tyC) anyB ((wj.alloc (.cells #[.int .i64 4, .string ⟨#[66]⟩] 24)).alloc (.cells #[.int .i64 6, .string ⟨#[]⟩] 24)) (.slice (some ⟨wj.heap.size + 1, 0, none⟩) 1 1) [((6, ⟨#[]⟩) : Ty)]) := Lib.hid (by
    have := rdX_lit1 (sz := 2) (c := tyC) (fun _ => rfl) (wj.alloc (.cells #[.int .i64 4, .string ⟨#[66]⟩] 24)) ((6, ⟨#[]⟩) : Ty) #[.int .i64 6, .string ⟨#[]⟩] 24 rfl
    rwa [World.size_alloc] at this)
  go_wp2_with fail
  refine (All_y ok anyB anyB tb mb vs K _ _ [(4, ⟨#[66]⟩)] [(6, ⟨#[]⟩)] _ (HS.out.below (jbl2 _ _ _)).1 (HP.out.any (sP.grow _) (below_alR _ _)) HQ.out (by intro t ht; rw [List.mem_singleton.1 ht]; exact sz_small (by decide)) (by intro t ht; rw [List.mem_singleton.1 ht]; exact sz_small (by decide)) (by decide) (by decide)).mono ?_
  rintro e wl ⟨vl, rfl, ho, hbn⟩
  replace HS := Lib.hid ((HS.out.below (jbl2 _ _ _)).below hbn)
  replace ho : OwnX 2 24 (sP tyC) wl _ vl (allT (K.map skOf) [(4, ⟨#[66]⟩)] [(6, ⟨#[]⟩)]) := ho
  rw [HK.out, y_all] at ho
  obtain ⟨gl, cl, hvl, -, -, hgl⟩ := ho.row (by decide)
  subst hvl
  obtain ⟨bl, off, hp, -, -, -, -, hc⟩ := (ho.rd (sP.grow _)).at (by simp)
  cases hp
  obtain ⟨us, hus, hcs⟩ := hc 0 _ rfl
  have hus' : us = tyC (4, ⟨#[66]⟩) := hus
  subst hus'
  have l0 := hcs 0 _ rfl
  have l1 := hcs 1 _ rfl
  simp only [Nat.zero_mul, Nat.add_zero, Nat.zero_add] at l0 l1
  have HL : Hid (gl < wl.heap.size ∧ wl.cell? ⟨gl, 0, none⟩ = some (.int .i64 4) ∧ wl.cell? ⟨gl, 1, none⟩ = some (.string ⟨#[66]⟩)) := Lib.hid ⟨hgl, l0, l1⟩
  clear al a0 a1 bl b0 b1 nl n0 n1
  clear HP HQ hbn ho hgl hc hus hcs l0 l1
  obtain ⟨al, a0, a1⟩ := HS.out.cell (g := g) (a := (4, ⟨#[66]⟩)) (by simp)
  obtain ⟨bl, b0, b1⟩ := HS.out.cell (g := g + 1) (a := (4, ⟨#[67]⟩)) (by simp)
  obtain ⟨nl, n0, n1⟩ := HS.out.cell (g := g + 2) (a := (6, ⟨#[]⟩)) (by simp)
  try dsimp only at a0 a1 b0 b1 n0 n1
  have HP : Hid (RdX 2 (sP tyC) anyB (wl.alloc (.cells #[.int .i64 4, .string ⟨#[66]⟩] 24)) (.slice (some ⟨wl.heap.size, 0, none⟩) 1 1) [((4, ⟨#[66]⟩) : Ty)]) := Lib.hid (rdX_lit1 (sz := 2) (c := tyC) (fun _ => rfl) wl _ _ _ rfl)
  go_wp2_with fail
  refine (All_y ok anyB anyB tb mb vs K _ _ [(4, ⟨#[66]⟩)] [] _ (HS.out.below (below_alR _ _)).1 HP.out (RdX.nil _ _ _ _) (by intro t ht; rw [List.mem_singleton.1 ht]; exact sz_small (by decide)) (by intro t ht; cases ht) (by decide) (by decide)).mono ?_
  rintro e wj ⟨v2, rfl, ho, hbn⟩
  replace HS := Lib.hid ((HS.out.below (below_alR _ _)).below hbn)
  replace HL := Lib.hid (c2_below (c2_below HL.out (below_alR _ _)) hbn)
  obtain ⟨pr, nr, cr, hv2⟩ := ho.slice
  subst hv2
  clear al a0 a1 bl b0 b1 nl n0 n1
  clear HP hbn ho
  go_upto_region 5 with fail
  replace HS := Lib.hid (HS.out.below (Below.refl wj.heap.size wj).drew)
  replace HL := Lib.hid (c2_below HL.out (Below.refl wj.heap.size wj).drew)
  have j_ab := y_ab
  have j_na := y_na
  have j_ai := y_ai
  have s_na := z_na
  have s_ai := z_ai
  have s_ba := z_ba
  have r_n' := r_n
  have hf0 := fld_0
  have hf1 := fld_1
  refine wp_region_held_drew (S := fun W => ((g) < W.heap.size ∧ W.cell? ⟨g, 0, none⟩ = some (.int .i64 4) ∧ W.cell? ⟨g, 1, none⟩ = some (.string ⟨#[66]⟩)) ∧ ((g + 1) < W.heap.size ∧ W.cell? ⟨g + 1, 0, none⟩ = some (.int .i64 4) ∧ W.cell? ⟨g + 1, 1, none⟩ = some (.string ⟨#[67]⟩)) ∧ ((g + 2) < W.heap.size ∧ W.cell? ⟨g + 2, 0, none⟩ = some (.int .i64 6) ∧ W.cell? ⟨g + 2, 1, none⟩ = some (.string ⟨#[]⟩)) ∧ (gl < W.heap.size ∧ W.cell? ⟨gl, 0, none⟩ = some (.int .i64 4) ∧ W.cell? ⟨gl, 1, none⟩ = some (.string ⟨#[66]⟩))) (by kernel_rfl) ⟨HS.out.cell (g := g) (a := (4, ⟨#[66]⟩)) (by simp), HS.out.cell (g := g + 1) (a := (4, ⟨#[67]⟩)) (by simp), HS.out.cell (g := g + 2) (a := (6, ⟨#[]⟩)) (by simp), HL.out⟩ (fun hHeld => ?_)
  refine wpAnyH_take (i := 0) (oi := _) (v := ?_) (by simp only [List.getElem?_toArray, List.getElem?_cons_zero]; rfl) (by kernel_rfl) (by kernel_rfl) (by kernel_rfl) (by intro _ _ _ h; exact h) (Or.inl ⟨by rfl, fun W hSw => ?_⟩) hHeld ?_
  rotate_left 1
  · (clear hSw; first | (go_simp; done) | (go_simp; with_reducible rfl))
  try go_frame
  refine wpAnyH_take (i := 1) (oi := _) (v := ?_) (by simp only [List.getElem?_toArray, List.getElem?_cons_succ, List.getElem?_cons_zero]; rfl) (by kernel_rfl) (by kernel_rfl) (by kernel_rfl) (by intro _ _ _ h; exact h) (Or.inl ⟨by rfl, fun W hSw => ?_⟩) hHeld ?_
  rotate_left 1
  · (try dsimp only at hSw); first | (go_simp; done) | (go_simp; with_reducible rfl)
  try go_frame
  refine wpAnyH_take (i := 2) (oi := _) (v := ?_) (by simp only [List.getElem?_toArray, List.getElem?_cons_succ, List.getElem?_cons_zero]; rfl) (by kernel_rfl) (by kernel_rfl) (by kernel_rfl) (by intro _ _ _ h; exact h) (Or.inl ⟨by rfl, fun W hSw => ?_⟩) hHeld ?_
  rotate_left 1
  · (try dsimp only at hSw); first | (go_simp; done) | (go_simp; with_reducible rfl)
  try go_frame
  refine wpAnyH_ready (rs := [3]) (by kernel_rfl) (by simp) ?_
  refine AllReadyH.cons (o := _) (by simp only [List.getElem?_toArray, List.getElem?_cons_succ, List.getElem?_cons_zero]; rfl) (fun KX hKX => ?_) AllReadyH.nil
  clear hHeld
  go_simp
  refine (join_c HS.out HK.out (by exact sz_small (by decide)) (by exact sz_small (by decide))).mono ?_
  (first | rw [j_ab] | rw [j_na] | rw [j_ai]); rw [tyv_eta]
  rintro e wn ⟨rfl, hbn⟩
  replace HS := Lib.hid (HS.out.below hbn)
  replace HL := Lib.hid (c2_below HL.out hbn)
  clear hbn
  refine hKX.out _ _ ⟨HS.out.cell (g := g) (a := (4, ⟨#[66]⟩)) (by simp), HS.out.cell (g := g + 1) (a := (4, ⟨#[67]⟩)) (by simp), HS.out.cell (g := g + 2) (a := (6, ⟨#[]⟩)) (by simp), HL.out⟩ (fun hHeld => ?_)
  clear hKX KX
  try go_frame
  refine wpAnyH_take (i := 4) (oi := _) (v := ?_) (by simp only [List.getElem?_toArray, List.getElem?_cons_succ, List.getElem?_cons_zero]; rfl) (by kernel_rfl) (by kernel_rfl) (by kernel_rfl) (by intro _ _ _ h; exact h) (Or.inl ⟨by rfl, fun W hSw => ?_⟩) hHeld ?_
  rotate_left 1
  · (clear hSw; first | (go_simp; done) | (go_simp; with_reducible rfl))
  try go_frame
  refine wpAnyH_take (i := 5) (oi := _) (v := ?_) (by simp only [List.getElem?_toArray, List.getElem?_cons_succ, List.getElem?_cons_zero]; rfl) (by kernel_rfl) (by kernel_rfl) (by kernel_rfl) (by intro _ _ _ h; exact h) (Or.inl ⟨by rfl, fun W hSw => ?_⟩) hHeld ?_
  rotate_left 1
  · (clear hSw; first | (go_simp; done) | (go_simp; with_reducible rfl))
  try go_frame
  refine wpAnyH_take (i := 6) (oi := _) (v := ?_) (by simp only [List.getElem?_toArray, List.getElem?_cons_succ, List.getElem?_cons_zero]; rfl) (by kernel_rfl) (by kernel_rfl) (by kernel_rfl) (by intro _ _ _ h; exact h) (Or.inl ⟨by rfl, fun W hSw => ?_⟩) hHeld ?_
  rotate_left 1
  · (clear hSw; first | (go_simp; done) | (go_simp; with_reducible rfl))
  try go_frame
  refine wpAnyH_take (i := 7) (oi := _) (v := ?_) (by simp only [List.getElem?_toArray, List.getElem?_cons_succ, List.getElem?_cons_zero]; rfl) (by kernel_rfl) (by kernel_rfl) (by kernel_rfl) (by intro _ _ _ h; exact h) (Or.inl ⟨by rfl, fun W hSw => ?_⟩) hHeld ?_
  rotate_left 1
  · (clear hSw; first | (go_simp; done) | (go_simp; with_reducible rfl))
  try go_frame
  refine wpAnyH_take (i := 8) (oi := _) (v := ?_) (by simp only [List.getElem?_toArray, List.getElem?_cons_succ, List.getElem?_cons_zero]; rfl) (by kernel_rfl) (by kernel_rfl) (by kernel_rfl) (by intro _ _ _ h; exact h) (Or.inl ⟨by rfl, fun W hSw => ?_⟩) hHeld ?_
  rotate_left 1
  · (try dsimp only at hSw); first | (go_simp; done) | (go_simp; with_reducible rfl)
  try go_frame
  refine wpAnyH_take (i := 9) (oi := _) (v := ?_) (by simp only [List.getElem?_toArray, List.getElem?_cons_succ, List.getElem?_cons_zero]; rfl) (by kernel_rfl) (by kernel_rfl) (by kernel_rfl) (by intro _ _ _ h; exact h) (Or.inl ⟨by rfl, fun W hSw => ?_⟩) hHeld ?_
  rotate_left 1
  · (try dsimp only at hSw); first | (go_simp; done) | (go_simp; with_reducible rfl)
  try go_frame
  refine wpAnyH_take (i := 11) (oi := _) (v := ?_) (by simp only [List.getElem?_toArray, List.getElem?_cons_succ, List.getElem?_cons_zero]; rfl) (by kernel_rfl) (by kernel_rfl) (by kernel_rfl) (by intro _ _ _ h; exact h) (Or.inl ⟨by rfl, fun W hSw => ?_⟩) hHeld ?_
  rotate_left 1
  · (try dsimp only at hSw); first | (go_simp; done) | (go_simp; with_reducible rfl)
  try go_frame
  refine wpAnyH_ready (rs := [10]) (by kernel_rfl) (by simp) ?_
  refine AllReadyH.cons (o := _) (by simp only [List.getElem?_toArray, List.getElem?_cons_succ, List.getElem?_cons_zero]; rfl) (fun KX hKX => ?_) AllReadyH.nil
  clear hHeld
  go_simp
  refine (join_c HS.out HK.out (by exact sz_small (by decide)) (by exact sz_small (by decide))).mono ?_
  (first | rw [j_ab] | rw [j_na] | rw [j_ai]); rw [tyv_eta]
  rintro e wn ⟨rfl, hbn⟩
  replace HS := Lib.hid (HS.out.below hbn)
  replace HL := Lib.hid (c2_below HL.out hbn)
  clear hbn
  refine hKX.out _ _ ⟨HS.out.cell (g := g) (a := (4, ⟨#[66]⟩)) (by simp), HS.out.cell (g := g + 1) (a := (4, ⟨#[67]⟩)) (by simp), HS.out.cell (g := g + 2) (a := (6, ⟨#[]⟩)) (by simp), HL.out⟩ (fun hHeld => ?_)
  clear hKX KX
  try go_frame
  refine wpAnyH_take (i := 12) (oi := _) (v := ?_) (by simp only [List.getElem?_toArray, List.getElem?_cons_succ, List.getElem?_cons_zero]; rfl) (by kernel_rfl) (by kernel_rfl) (by kernel_rfl) (by intro _ _ _ h; exact h) (Or.inl ⟨by rfl, fun W hSw => ?_⟩) hHeld ?_
  rotate_left 1
  · (clear hSw; first | (go_simp; done) | (go_simp; with_reducible rfl))
  try go_frame
  refine wpAnyH_take (i := 13) (oi := _) (v := ?_) (by simp only [List.getElem?_toArray, List.getElem?_cons_succ, List.getElem?_cons_zero]; rfl) (by kernel_rfl) (by kernel_rfl) (by kernel_rfl) (by intro _ _ _ h; exact h) (Or.inl ⟨by rfl, fun W hSw => ?_⟩) hHeld ?_
  rotate_left 1
  · (clear hSw; first | (go_simp; done) | (go_simp; with_reducible rfl))
  try go_frame
  refine wpAnyH_take (i := 14) (oi := _) (v := ?_) (by simp only [List.getElem?_toArray, List.getElem?_cons_succ, List.getElem?_cons_zero]; rfl) (by kernel_rfl) (by kernel_rfl) (by kernel_rfl) (by intro _ _ _ h; exact h) (Or.inl ⟨by rfl, fun W hSw => ?_⟩) hHeld ?_
  rotate_left 1
  · (clear hSw; first | (go_simp; done) | (go_simp; with_reducible rfl))
  try go_frame
  refine wpAnyH_take (i := 15) (oi := _) (v := ?_) (by simp only [List.getElem?_toArray, List.getElem?_cons_succ, List.getElem?_cons_zero]; rfl) (by kernel_rfl) (by kernel_rfl) (by kernel_rfl) (by intro _ _ _ h; exact h) (Or.inl ⟨by rfl, fun W hSw => ?_⟩) hHeld ?_
  rotate_left 1
  · (clear hSw; first | (go_simp; done) | (go_simp; with_reducible rfl))
  try go_frame
  refine wpAnyH_take (i := 16) (oi := _) (v := ?_) (by simp only [List.getElem?_toArray, List.getElem?_cons_succ, List.getElem?_cons_zero]; rfl) (by kernel_rfl) (by kernel_rfl) (by kernel_rfl) (by intro _ _ _ h; exact h) (Or.inl ⟨by rfl, fun W hSw => ?_⟩) hHeld ?_
  rotate_left 1
  · (try dsimp only at hSw); first | (go_simp; done) | (go_simp; with_reducible rfl)
  try go_frame
  refine wpAnyH_take (i := 17) (oi := _) (v := ?_) (by simp only [List.getElem?_toArray, List.getElem?_cons_succ, List.getElem?_cons_zero]; rfl) (by kernel_rfl) (by kernel_rfl) (by kernel_rfl) (by intro _ _ _ h; exact h) (Or.inl ⟨by rfl, fun W hSw => ?_⟩) hHeld ?_
  rotate_left 1
  · (clear hSw; first | (go_simp; done) | (go_simp; with_reducible rfl))
  try go_frame
  refine wpAnyH_ready (rs := [18]) (by kernel_rfl) (by simp) ?_
  refine AllReadyH.cons (o := _) (by simp only [List.getElem?_toArray, List.getElem?_cons_succ, List.getElem?_cons_zero]; rfl) (fun KX hKX => ?_) AllReadyH.nil
  clear hHeld
  go_simp
  refine (join_c HS.out HK.out (by exact sz_small (by decide)) (by exact sz_small (by decide))).mono ?_
  (first | rw [j_ab] | rw [j_na] | rw [j_ai]); rw [tyv_eta]
  rintro e wn ⟨rfl, hbn⟩
  replace HS := Lib.hid (HS.out.below hbn)
  replace HL := Lib.hid (c2_below HL.out hbn)
  clear hbn
  refine hKX.out _ _ ⟨HS.out.cell (g := g) (a := (4, ⟨#[66]⟩)) (by simp), HS.out.cell (g := g + 1) (a := (4, ⟨#[67]⟩)) (by simp), HS.out.cell (g := g + 2) (a := (6, ⟨#[]⟩)) (by simp), HL.out⟩ (fun hHeld => ?_)
  clear hKX KX
  try go_frame
  refine wpAnyH_take (i := 19) (oi := _) (v := ?_) (by simp only [List.getElem?_toArray, List.getElem?_cons_succ, List.getElem?_cons_zero]; rfl) (by kernel_rfl) (by kernel_rfl) (by kernel_rfl) (by intro _ _ _ h; exact h) (Or.inl ⟨by rfl, fun W hSw => ?_⟩) hHeld ?_
  rotate_left 1
  · (clear hSw; first | (go_simp; done) | (go_simp; with_reducible rfl))
  try go_frame
  refine wpAnyH_take (i := 20) (oi := _) (v := ?_) (by simp only [List.getElem?_toArray, List.getElem?_cons_succ, List.getElem?_cons_zero]; rfl) (by kernel_rfl) (by kernel_rfl) (by kernel_rfl) (by intro _ _ _ h; exact h) (Or.inl ⟨by rfl, fun W hSw => ?_⟩) hHeld ?_
  rotate_left 1
  · (clear hSw; first | (go_simp; done) | (go_simp; with_reducible rfl))
  try go_frame
  refine wpAnyH_take (i := 21) (oi := _) (v := ?_) (by simp only [List.getElem?_toArray, List.getElem?_cons_succ, List.getElem?_cons_zero]; rfl) (by kernel_rfl) (by kernel_rfl) (by kernel_rfl) (by intro _ _ _ h; exact h) (Or.inl ⟨by rfl, fun W hSw => ?_⟩) hHeld ?_
  rotate_left 1
  · (clear hSw; first | (go_simp; done) | (go_simp; with_reducible rfl))
  try go_frame
  refine wpAnyH_take (i := 22) (oi := _) (v := ?_) (by simp only [List.getElem?_toArray, List.getElem?_cons_succ, List.getElem?_cons_zero]; rfl) (by kernel_rfl) (by kernel_rfl) (by kernel_rfl) (by intro _ _ _ h; exact h) (Or.inl ⟨by rfl, fun W hSw => ?_⟩) hHeld ?_
  rotate_left 1
  · (clear hSw; first | (go_simp; done) | (go_simp; with_reducible rfl))
  try go_frame
  refine wpAnyH_take (i := 23) (oi := _) (v := ?_) (by simp only [List.getElem?_toArray, List.getElem?_cons_succ, List.getElem?_cons_zero]; rfl) (by kernel_rfl) (by kernel_rfl) (by kernel_rfl) (by intro _ _ _ h; exact h) (Or.inl ⟨by rfl, fun W hSw => ?_⟩) hHeld ?_
  rotate_left 1
  · (clear hSw; first | (go_simp; done) | (go_simp; with_reducible rfl))
  try go_frame
  refine wpAnyH_take (i := 24) (oi := _) (v := ?_) (by simp only [List.getElem?_toArray, List.getElem?_cons_succ, List.getElem?_cons_zero]; rfl) (by kernel_rfl) (by kernel_rfl) (by kernel_rfl) (by intro _ _ _ h; exact h) (Or.inl ⟨by rfl, fun W hSw => ?_⟩) hHeld ?_
  rotate_left 1
  · (try dsimp only at hSw); first | (go_simp; done) | (go_simp; with_reducible rfl)
  try go_frame
  refine wpAnyH_take (i := 25) (oi := _) (v := ?_) (by simp only [List.getElem?_toArray, List.getElem?_cons_succ, List.getElem?_cons_zero]; rfl) (by kernel_rfl) (by kernel_rfl) (by kernel_rfl) (by intro _ _ _ h; exact h) (Or.inl ⟨by rfl, fun W hSw => ?_⟩) hHeld ?_
  rotate_left 1
  · (try dsimp only at hSw); first | (go_simp; done) | (go_simp; with_reducible rfl)
  try go_frame
  refine wpAnyH_ready (rs := [26]) (by kernel_rfl) (by simp) ?_
  refine AllReadyH.cons (o := _) (by simp only [List.getElem?_toArray, List.getElem?_cons_succ, List.getElem?_cons_zero]; rfl) (fun KX hKX => ?_) AllReadyH.nil
  clear hHeld
  go_simp
  refine (fits_c HS.out HK.out (by exact sz_small (by decide)) (by exact sz_small (by decide))).mono ?_
  (first | rw [s_na] | rw [s_ai] | rw [s_ba])
  rintro e wn ⟨rfl, hbn⟩
  replace HS := Lib.hid (HS.out.below hbn)
  replace HL := Lib.hid (c2_below HL.out hbn)
  clear hbn
  refine hKX.out _ _ ⟨HS.out.cell (g := g) (a := (4, ⟨#[66]⟩)) (by simp), HS.out.cell (g := g + 1) (a := (4, ⟨#[67]⟩)) (by simp), HS.out.cell (g := g + 2) (a := (6, ⟨#[]⟩)) (by simp), HL.out⟩ (fun hHeld => ?_)
  clear hKX KX
  try go_frame
  refine wpAnyH_take (i := 27) (oi := _) (v := ?_) (by simp only [List.getElem?_toArray, List.getElem?_cons_succ, List.getElem?_cons_zero]; rfl) (by kernel_rfl) (by kernel_rfl) (by kernel_rfl) (by intro _ _ _ h; exact h) (Or.inl ⟨by rfl, fun W hSw => ?_⟩) hHeld ?_
  rotate_left 1
  · (clear hSw; first | (go_simp; done) | (go_simp; with_reducible rfl))
  try go_frame
  refine wpAnyH_take (i := 28) (oi := _) (v := ?_) (by simp only [List.getElem?_toArray, List.getElem?_cons_succ, List.getElem?_cons_zero]; rfl) (by kernel_rfl) (by kernel_rfl) (by kernel_rfl) (by intro _ _ _ h; exact h) (Or.inl ⟨by rfl, fun W hSw => ?_⟩) hHeld ?_
  rotate_left 1
  · (clear hSw; first | (go_simp; done) | (go_simp; with_reducible rfl))
  try go_frame
  refine wpAnyH_take (i := 29) (oi := _) (v := ?_) (by simp only [List.getElem?_toArray, List.getElem?_cons_succ, List.getElem?_cons_zero]; rfl) (by kernel_rfl) (by kernel_rfl) (by kernel_rfl) (by intro _ _ _ h; exact h) (Or.inl ⟨by rfl, fun W hSw => ?_⟩) hHeld ?_
  rotate_left 1
  · (clear hSw; first | (go_simp; done) | (go_simp; with_reducible rfl))
  try go_frame
  refine wpAnyH_take (i := 30) (oi := _) (v := ?_) (by simp only [List.getElem?_toArray, List.getElem?_cons_succ, List.getElem?_cons_zero]; rfl) (by kernel_rfl) (by kernel_rfl) (by kernel_rfl) (by intro _ _ _ h; exact h) (Or.inl ⟨by rfl, fun W hSw => ?_⟩) hHeld ?_
  rotate_left 1
  · (try dsimp only at hSw); first | (go_simp; done) | (go_simp; with_reducible rfl)
  try go_frame
  refine wpAnyH_take (i := 31) (oi := _) (v := ?_) (by simp only [List.getElem?_toArray, List.getElem?_cons_succ, List.getElem?_cons_zero]; rfl) (by kernel_rfl) (by kernel_rfl) (by kernel_rfl) (by intro _ _ _ h; exact h) (Or.inl ⟨by rfl, fun W hSw => ?_⟩) hHeld ?_
  rotate_left 1
  · (clear hSw; first | (go_simp; done) | (go_simp; with_reducible rfl))
  try go_frame
  refine wpAnyH_ready (rs := [32]) (by kernel_rfl) (by simp) ?_
  refine AllReadyH.cons (o := _) (by simp only [List.getElem?_toArray, List.getElem?_cons_succ, List.getElem?_cons_zero]; rfl) (fun KX hKX => ?_) AllReadyH.nil
  clear hHeld
  go_simp
  refine (fits_c HS.out HK.out (by exact sz_small (by decide)) (by exact sz_small (by decide))).mono ?_
  (first | rw [s_na] | rw [s_ai] | rw [s_ba])
  rintro e wn ⟨rfl, hbn⟩
  replace HS := Lib.hid (HS.out.below hbn)
  replace HL := Lib.hid (c2_below HL.out hbn)
  clear hbn
  refine hKX.out _ _ ⟨HS.out.cell (g := g) (a := (4, ⟨#[66]⟩)) (by simp), HS.out.cell (g := g + 1) (a := (4, ⟨#[67]⟩)) (by simp), HS.out.cell (g := g + 2) (a := (6, ⟨#[]⟩)) (by simp), HL.out⟩ (fun hHeld => ?_)
  clear hKX KX
  try go_frame
  refine wpAnyH_take (i := 33) (oi := _) (v := ?_) (by simp only [List.getElem?_toArray, List.getElem?_cons_succ, List.getElem?_cons_zero]; rfl) (by kernel_rfl) (by kernel_rfl) (by kernel_rfl) (by intro _ _ _ h; exact h) (Or.inl ⟨by rfl, fun W hSw => ?_⟩) hHeld ?_
  rotate_left 1
  · (clear hSw; first | (go_simp; done) | (go_simp; with_reducible rfl))
  try go_frame
  refine wpAnyH_take (i := 34) (oi := _) (v := ?_) (by simp only [List.getElem?_toArray, List.getElem?_cons_succ, List.getElem?_cons_zero]; rfl) (by kernel_rfl) (by kernel_rfl) (by kernel_rfl) (by intro _ _ _ h; exact h) (Or.inl ⟨by rfl, fun W hSw => ?_⟩) hHeld ?_
  rotate_left 1
  · (clear hSw; first | (go_simp; done) | (go_simp; with_reducible rfl))
  try go_frame
  refine wpAnyH_take (i := 35) (oi := _) (v := ?_) (by simp only [List.getElem?_toArray, List.getElem?_cons_succ, List.getElem?_cons_zero]; rfl) (by kernel_rfl) (by kernel_rfl) (by kernel_rfl) (by intro _ _ _ h; exact h) (Or.inl ⟨by rfl, fun W hSw => ?_⟩) hHeld ?_
  rotate_left 1
  · (clear hSw; first | (go_simp; done) | (go_simp; with_reducible rfl))
  try go_frame
  refine wpAnyH_take (i := 36) (oi := _) (v := ?_) (by simp only [List.getElem?_toArray, List.getElem?_cons_succ, List.getElem?_cons_zero]; rfl) (by kernel_rfl) (by kernel_rfl) (by kernel_rfl) (by intro _ _ _ h; exact h) (Or.inl ⟨by rfl, fun W hSw => ?_⟩) hHeld ?_
  rotate_left 1
  · (try dsimp only at hSw); first | (go_simp; done) | (go_simp; with_reducible rfl)
  try go_frame
  refine wpAnyH_take (i := 37) (oi := _) (v := ?_) (by simp only [List.getElem?_toArray, List.getElem?_cons_succ, List.getElem?_cons_zero]; rfl) (by kernel_rfl) (by kernel_rfl) (by kernel_rfl) (by intro _ _ _ h; exact h) (Or.inl ⟨by rfl, fun W hSw => ?_⟩) hHeld ?_
  rotate_left 1
  · (try dsimp only at hSw); first | (go_simp; done) | (go_simp; with_reducible rfl)
  try go_frame
  refine wpAnyH_ready (rs := [38]) (by kernel_rfl) (by simp) ?_
  refine AllReadyH.cons (o := _) (by simp only [List.getElem?_toArray, List.getElem?_cons_succ, List.getElem?_cons_zero]; rfl) (fun KX hKX => ?_) AllReadyH.nil
  clear hHeld
  go_simp
  refine (fits_c HS.out HK.out (by exact sz_small (by decide)) (by exact sz_small (by decide))).mono ?_
  (first | rw [s_na] | rw [s_ai] | rw [s_ba])
  rintro e wn ⟨rfl, hbn⟩
  replace HS := Lib.hid (HS.out.below hbn)
  replace HL := Lib.hid (c2_below HL.out hbn)
  clear hbn
  refine hKX.out _ _ ⟨HS.out.cell (g := g) (a := (4, ⟨#[66]⟩)) (by simp), HS.out.cell (g := g + 1) (a := (4, ⟨#[67]⟩)) (by simp), HS.out.cell (g := g + 2) (a := (6, ⟨#[]⟩)) (by simp), HL.out⟩ (fun hHeld => ?_)
  clear hKX KX
  try go_frame
  refine wpAnyH_take (i := 39) (oi := _) (v := ?_) (by simp only [List.getElem?_toArray, List.getElem?_cons_succ, List.getElem?_cons_zero]; rfl) (by kernel_rfl) (by kernel_rfl) (by kernel_rfl) (by intro _ _ _ h; exact h) (Or.inl ⟨by rfl, fun W hSw => ?_⟩) hHeld ?_
  rotate_left 1
  · (clear hSw; first | (go_simp; done) | (go_simp; with_reducible rfl))
  try go_frame
  refine wpAnyH_take (i := 40) (oi := _) (v := ?_) (by simp only [List.getElem?_toArray, List.getElem?_cons_succ, List.getElem?_cons_zero]; rfl) (by kernel_rfl) (by kernel_rfl) (by kernel_rfl) (by intro _ _ _ h; exact h) (Or.inl ⟨by rfl, fun W hSw => ?_⟩) hHeld ?_
  rotate_left 1
  · (clear hSw; first | (go_simp; done) | (go_simp; with_reducible rfl))
  try go_frame
  refine wpAnyH_take (i := 41) (oi := _) (v := ?_) (by simp only [List.getElem?_toArray, List.getElem?_cons_succ, List.getElem?_cons_zero]; rfl) (by kernel_rfl) (by kernel_rfl) (by kernel_rfl) (by intro _ _ _ h; exact h) (Or.inl ⟨by rfl, fun W hSw => ?_⟩) hHeld ?_
  rotate_left 1
  · (clear hSw; first | (go_simp; done) | (go_simp; with_reducible rfl))
  try go_frame
  refine wpAnyH_take (i := 42) (oi := _) (v := ?_) (by simp only [List.getElem?_toArray, List.getElem?_cons_succ, List.getElem?_cons_zero]; rfl) (by kernel_rfl) (by kernel_rfl) (by kernel_rfl) (by intro _ _ _ h; exact h) (Or.inl ⟨by rfl, fun W hSw => ?_⟩) hHeld ?_
  rotate_left 1
  · (try dsimp only at hSw); first | (go_simp; done) | (go_simp; with_reducible rfl)
  try go_frame
  refine wpAnyH_ready (rs := [43]) (by kernel_rfl) (by simp) ?_
  refine AllReadyH.cons (o := _) (by simp only [List.getElem?_toArray, List.getElem?_cons_succ, List.getElem?_cons_zero]; rfl) (fun KX hKX => ?_) AllReadyH.nil
  clear hHeld
  go_simp
  refine refers_c.mono ?_
  (first | rw [r_n'])
  rintro e wn ⟨rfl, hbn⟩
  replace HS := Lib.hid (HS.out.below hbn)
  replace HL := Lib.hid (c2_below HL.out hbn)
  clear hbn
  refine hKX.out _ _ ⟨HS.out.cell (g := g) (a := (4, ⟨#[66]⟩)) (by simp), HS.out.cell (g := g + 1) (a := (4, ⟨#[67]⟩)) (by simp), HS.out.cell (g := g + 2) (a := (6, ⟨#[]⟩)) (by simp), HL.out⟩ (fun hHeld => ?_)
  clear hKX KX
  try go_frame
  refine wpAnyH_take (i := 44) (oi := _) (v := ?_) (by simp only [List.getElem?_toArray, List.getElem?_cons_succ, List.getElem?_cons_zero]; rfl) (by kernel_rfl) (by kernel_rfl) (by kernel_rfl) (by intro _ _ _ h; exact h) (Or.inl ⟨by rfl, fun W hSw => ?_⟩) hHeld ?_
  rotate_left 1
  · (clear hSw; first | (go_simp; done) | (go_simp; with_reducible rfl))
  try go_frame
  refine wpAnyH_take (i := 45) (oi := _) (v := ?_) (by simp only [List.getElem?_toArray, List.getElem?_cons_succ, List.getElem?_cons_zero]; rfl) (by kernel_rfl) (by kernel_rfl) (by kernel_rfl) (by intro _ _ _ h; exact h) (Or.inl ⟨by rfl, fun W hSw => ?_⟩) hHeld ?_
  rotate_left 1
  · (clear hSw; first | (go_simp; done) | (go_simp; with_reducible rfl))
  try go_frame
  refine wpAnyH_take (i := 46) (oi := _) (v := ?_) (by simp only [List.getElem?_toArray, List.getElem?_cons_succ, List.getElem?_cons_zero]; rfl) (by kernel_rfl) (by kernel_rfl) (by kernel_rfl) (by intro _ _ _ h; exact h) (Or.inl ⟨by rfl, fun W hSw => ?_⟩) hHeld ?_
  rotate_left 1
  · (clear hSw; first | (go_simp; done) | (go_simp; with_reducible rfl))
  try go_frame
  refine wpAnyH_take (i := 47) (oi := _) (v := ?_) (by simp only [List.getElem?_toArray, List.getElem?_cons_succ, List.getElem?_cons_zero]; rfl) (by kernel_rfl) (by kernel_rfl) (by kernel_rfl) (by intro _ _ _ h; exact h) (Or.inl ⟨by rfl, fun W hSw => ?_⟩) hHeld ?_
  rotate_left 1
  · (clear hSw; first | (go_simp; done) | (go_simp; with_reducible rfl))
  try go_frame
  refine wpAnyH_take (i := 48) (oi := _) (v := ?_) (by simp only [List.getElem?_toArray, List.getElem?_cons_succ, List.getElem?_cons_zero]; rfl) (by kernel_rfl) (by kernel_rfl) (by kernel_rfl) (by intro _ _ _ h; exact h) (Or.inl ⟨by rfl, fun W hSw => ?_⟩) hHeld ?_
  rotate_left 1
  · (clear hSw; first | (go_simp; done) | (go_simp; with_reducible rfl))
  try go_frame
  refine wpAnyH_take (i := 49) (oi := _) (v := ?_) (by simp only [List.getElem?_toArray, List.getElem?_cons_succ, List.getElem?_cons_zero]; rfl) (by kernel_rfl) (by kernel_rfl) (by kernel_rfl) (by intro _ _ _ h; exact h) (Or.inl ⟨by rfl, fun W hSw => ?_⟩) hHeld ?_
  rotate_left 1
  · (clear hSw; first | (go_simp; done) | (go_simp; with_reducible rfl))
  try go_frame
  refine wpAnyH_take (i := 50) (oi := _) (v := ?_) (by simp only [List.getElem?_toArray, List.getElem?_cons_succ, List.getElem?_cons_zero]; rfl) (by kernel_rfl) (by kernel_rfl) (by kernel_rfl) (by intro _ _ _ h; exact h) (Or.inl ⟨by rfl, fun W hSw => ?_⟩) hHeld ?_
  rotate_left 1
  · (clear hSw; first | (go_simp; done) | (go_simp; with_reducible rfl))
  try go_frame
  refine wpAnyH_take (i := 51) (oi := _) (v := ?_) (by simp only [List.getElem?_toArray, List.getElem?_cons_succ, List.getElem?_cons_zero]; rfl) (by kernel_rfl) (by kernel_rfl) (by kernel_rfl) (by intro _ _ _ h; exact h) (Or.inl ⟨by rfl, fun W hSw => ?_⟩) hHeld ?_
  rotate_left 1
  · (clear hSw; first | (go_simp; done) | (go_simp; with_reducible rfl))
  try go_frame
  refine wpAnyH_take (i := 52) (oi := _) (v := ?_) (by simp only [List.getElem?_toArray, List.getElem?_cons_succ, List.getElem?_cons_zero]; rfl) (by kernel_rfl) (by kernel_rfl) (by kernel_rfl) (by intro _ _ _ h; exact h) (Or.inl ⟨by rfl, fun W hSw => ?_⟩) hHeld ?_
  rotate_left 1
  · (clear hSw; first | (go_simp; done) | (go_simp; with_reducible rfl))
  try go_frame
  refine wpAnyH_take (i := 53) (oi := _) (v := ?_) (by simp only [List.getElem?_toArray, List.getElem?_cons_succ, List.getElem?_cons_zero]; rfl) (by kernel_rfl) (by kernel_rfl) (by kernel_rfl) (by intro _ _ _ h; exact h) (Or.inl ⟨by rfl, fun W hSw => ?_⟩) hHeld ?_
  rotate_left 1
  · (clear hSw; first | (go_simp; done) | (go_simp; with_reducible rfl))
  try go_frame
  refine wpAnyH_take (i := 54) (oi := _) (v := ?_) (by simp only [List.getElem?_toArray, List.getElem?_cons_succ, List.getElem?_cons_zero]; rfl) (by kernel_rfl) (by kernel_rfl) (by kernel_rfl) (by intro _ _ _ h; exact h) (Or.inl ⟨by rfl, fun W hSw => ?_⟩) hHeld ?_
  rotate_left 1
  · (clear hSw; first | (go_simp; done) | (go_simp; with_reducible rfl))
  try go_frame
  refine wpAnyH_take (i := 55) (oi := _) (v := ?_) (by simp only [List.getElem?_toArray, List.getElem?_cons_succ, List.getElem?_cons_zero]; rfl) (by kernel_rfl) (by kernel_rfl) (by kernel_rfl) (by intro _ _ _ h; exact h) (Or.inl ⟨by rfl, fun W hSw => ?_⟩) hHeld ?_
  rotate_left 1
  · (clear hSw; first | (go_simp; done) | (go_simp; with_reducible rfl))
  try go_frame
  refine wpAnyH_take (i := 56) (oi := _) (v := ?_) (by simp only [List.getElem?_toArray, List.getElem?_cons_succ, List.getElem?_cons_zero]; rfl) (by kernel_rfl) (by kernel_rfl) (by kernel_rfl) (by intro _ _ _ h; exact h) (Or.inl ⟨by rfl, fun W hSw => ?_⟩) hHeld ?_
  rotate_left 1
  · (try dsimp only at hSw); first | (go_simp; done) | (go_simp; with_reducible rfl)
  try go_frame
  refine wpAnyH_take (i := 57) (oi := _) (v := ?_) (by simp only [List.getElem?_toArray, List.getElem?_cons_succ, List.getElem?_cons_zero]; rfl) (by kernel_rfl) (by kernel_rfl) (by kernel_rfl) (by intro _ _ _ h; exact h) (Or.inl ⟨by rfl, fun W hSw => ?_⟩) hHeld ?_
  rotate_left 1
  · (try dsimp only at hSw); first | (go_simp; done) | (go_simp; with_reducible rfl)
  try go_frame
  refine wpAnyH_take (i := 58) (oi := _) (v := ?_) (by simp only [List.getElem?_toArray, List.getElem?_cons_succ, List.getElem?_cons_zero]; rfl) (by kernel_rfl) (by kernel_rfl) (by kernel_rfl) (by intro _ _ _ h; exact h) (Or.inl ⟨by rfl, fun W hSw => ?_⟩) hHeld ?_
  rotate_left 1
  · (clear hSw; first | (go_simp; done) | (go_simp; with_reducible rfl))
  try go_frame
  refine wpAnyH_take (i := 59) (oi := _) (v := ?_) (by simp only [List.getElem?_toArray, List.getElem?_cons_succ, List.getElem?_cons_zero]; rfl) (by kernel_rfl) (by kernel_rfl) (by kernel_rfl) (by intro _ _ _ h; exact h) (Or.inl ⟨by rfl, fun W hSw => ?_⟩) hHeld ?_
  rotate_left 1
  · (clear hSw; first | (go_simp; done) | (go_simp; with_reducible rfl))
  try go_frame
  refine wpAnyH_take (i := 60) (oi := _) (v := ?_) (by simp only [List.getElem?_toArray, List.getElem?_cons_succ, List.getElem?_cons_zero]; rfl) (by kernel_rfl) (by kernel_rfl) (by kernel_rfl) (by intro _ _ _ h; exact h) (Or.inl ⟨by rfl, fun W hSw => ?_⟩) hHeld ?_
  rotate_left 1
  · (clear hSw; first | (go_simp; done) | (go_simp; with_reducible rfl))
  try go_frame
  refine wpAnyH_take (i := 61) (oi := _) (v := ?_) (by simp only [List.getElem?_toArray, List.getElem?_cons_succ, List.getElem?_cons_zero]; rfl) (by kernel_rfl) (by kernel_rfl) (by kernel_rfl) (by intro _ _ _ h; exact h) (Or.inl ⟨by rfl, fun W hSw => ?_⟩) hHeld ?_
  rotate_left 1
  · (clear hSw; first | (go_simp; done) | (go_simp; with_reducible rfl))
  try go_frame
  refine wpAnyH_take (i := 62) (oi := _) (v := ?_) (by simp only [List.getElem?_toArray, List.getElem?_cons_succ, List.getElem?_cons_zero]; rfl) (by kernel_rfl) (by kernel_rfl) (by kernel_rfl) (by intro _ _ _ h; exact h) (Or.inl ⟨by rfl, fun W hSw => ?_⟩) hHeld ?_
  rotate_left 1
  · (clear hSw; first | (go_simp; done) | (go_simp; with_reducible rfl))
  try go_frame
  refine wpAnyH_take (i := 63) (oi := _) (v := ?_) (by simp only [List.getElem?_toArray, List.getElem?_cons_succ, List.getElem?_cons_zero]; rfl) (by kernel_rfl) (by kernel_rfl) (by kernel_rfl) (by intro _ _ _ h; exact h) (Or.inl ⟨by rfl, fun W hSw => ?_⟩) hHeld ?_
  rotate_left 1
  · (clear hSw; first | (go_simp; done) | (go_simp; with_reducible rfl))
  try go_frame
  refine wpAnyH_take (i := 64) (oi := _) (v := ?_) (by simp only [List.getElem?_toArray, List.getElem?_cons_succ, List.getElem?_cons_zero]; rfl) (by kernel_rfl) (by kernel_rfl) (by kernel_rfl) (by intro _ _ _ h; exact h) (Or.inl ⟨by rfl, fun W hSw => ?_⟩) hHeld ?_
  rotate_left 1
  · (clear hSw; first | (go_simp; done) | (go_simp; with_reducible rfl))
  try go_frame
  refine wpAnyH_done (by kernel_rfl) ?_ _
  go_wp2_with fail
  go_ret
  exact ⟨rfl, HB2.out.trans (HS.out.2.2.mono HB2.out.size)⟩
end Go.Proofs.Ytdjciahaohfohaa.R
namespace Go.Proofs.Ytdjciahaohfohaa
open Go.ChangeShapes Go.WideShapes Go.ChangeAt Go.RowKit
theorem row_open {H : Type} {enc : TypeId × Value → H} {W : World} {base : Nat} {spare : Nat → Bool} {held : Bool} {t e : TypeId} {k : IntKind} {a : Option Addr} {len cap : Nat} {d : DataW H} {p : List MemPlace}
    (ht : Try.prog.underlying t = some (.slice e)) (he : Try.prog.underlying e = some (.int k)) (hc : Try.prog.cellsOf e = 1) (h : DataW.Trod enc Try.prog W base spare held t (.slice a len cap) d p) (hsp : ∀ b, spare b = true := by exact fun _ => rfl) :
    ∃ zs, IsRow k W a len cap zs := by
  obtain ⟨fuel, hf⟩ := h
  rcases open_ints ht he hc hf with ⟨hcs, _⟩ | ⟨x, l, c, zs, hcs, _, hl, hm, hz, _, hcell, hwz⟩
  · simp [Value.cells] at hcs
    obtain ⟨rfl, rfl, rfl⟩ := hcs
    exact ⟨[], .inl ⟨rfl, rfl, rfl, rfl⟩⟩
  · simp [Value.cells] at hcs
    obtain ⟨rfl, rfl, rfl⟩ := hcs
    exact ⟨zs, .inr ⟨_, rfl, hl, hm, by simpa [hsp] using hz, hcell, hwz⟩⟩
theorem row_le {k : IntKind} {w : World} {a : Option Addr} {len cap : Nat} {zs : List Int} (h : IsRow k w a len cap zs) : len ≤ 9223372036854775807 := by
  rcases h with ⟨_, h, _⟩ | ⟨_, _, h1, h2, _⟩
  · omega
  · unfold maxLen at h2; omega
end Go.Proofs.Ytdjciahaohfohaa
namespace Go.Proofs.Ytdjciahaohfohaa.A
open Go.ChangeShapes Go.WideShapes Go.ChangeAt Go.RowKit
theorem cells4 : Try.prog.cellsOf 22 = 4 := by kernel_rfl
theorem four_of {l : List Value} (h : l.length = 4) : ∃ c0 c1 c2 c3, l = [c0, c1, c2, c3] := by
  match l, h with
  | [c0, c1, c2, c3], _ => exact ⟨c0, c1, c2, c3, rfl⟩
set_option maxRecDepth 100000 in
theorem arr4_open {H : Type} {enc : TypeId × Value → H} {w : World} {base b0 : Nat} {spare : Nat → Bool} {held : Bool} {r : Reach} {v : Value} {d : DataW H} {p : List MemPlace}
    (hv : Value.okWide Try.prog w r b0 22 v) (h : DataW.Trod enc Try.prog w base spare held 22 v d p) :
    ∃ x0 x1 x2 x3 : Int, v = .agg #[.int .u8 x0, .int .u8 x1, .int .u8 x2, .int .u8 x3] ∧ (Lit.int .u8 x0).wf = true ∧ (Lit.int .u8 x1).wf = true ∧ (Lit.int .u8 x2).wf = true ∧ (Lit.int .u8 x3).wf = true := by
  obtain ⟨cs, rfl, hsz, _⟩ : ∃ cs, v = .agg cs ∧ cs.size = Try.prog.cellsOf 22 ∧ Row.okWide Try.prog w r b0 22 cs := by
    simpa [Value.okWide, Try.underlying22] using hv
  rw [cells4] at hsz
  obtain ⟨l⟩ := cs
  obtain ⟨c0, c1, c2, c3, rfl⟩ := four_of hsz
  obtain ⟨fuel, hf⟩ := h
  obtain ⟨y0, y1, y2, y3, m, hx, hy0, hy1, hy2, hy3⟩ := trod_array4 Try.underlying22 (by kernel_rfl) hf
  obtain ⟨x0, e0, rfl, w0⟩ := DataW.trod_int Try.underlying5 hy0
  obtain ⟨x1, e1, rfl, w1⟩ := DataW.trod_int Try.underlying5 hy1
  obtain ⟨x2, e2, rfl, w2⟩ := DataW.trod_int Try.underlying5 hy2
  obtain ⟨x3, e3, rfl, w3⟩ := DataW.trod_int Try.underlying5 hy3
  simp at e0 e1 e2 e3
  subst e0 e1 e2 e3
  exact ⟨x0, x1, x2, x3, rfl, w0, w1, w2, w3⟩
theorem bytes_open {H : Type} {enc : TypeId × Value → H} {W : World} {base : Nat} {spare : Nat → Bool} {held : Bool} {a : Option Addr} {len cap : Nat} {d : DataW H} {p : List MemPlace}
    (h : DataW.Trod enc Try.prog W base spare held 25 (.slice a len cap) d p) (hsp : ∀ b, spare b = true) : ∃ l : List UInt8, len = l.length ∧ Rd W (.slice a len cap) l ∧ (l = [] ∨ ∀ g, (Value.slice a len cap).ownBlock = some g → g < W.heap.size) ∧ len ≤ 9223372036854775807 := by
  obtain ⟨zs, hz⟩ := row_open Try.underlying25 Try.underlying5 (by kernel_rfl) h hsp
  obtain ⟨l, hl, hr⟩ := rd_of_row hz
  exact ⟨l, hl.symm, hr, live_of_row hz hl, row_le hz⟩
end Go.Proofs.Ytdjciahaohfohaa.A
