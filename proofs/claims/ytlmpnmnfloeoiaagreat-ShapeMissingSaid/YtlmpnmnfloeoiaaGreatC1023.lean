/- Texts that the proof is made of, joined. No condition. -/
import Derived.Test.YtlmpnmnfloeoiaaGreatC1022
import Derived.Test.YtlmpnmnfloeoiaaGreatC1017
import Derived.Test.YtlmpnmnfloeoiaaGreatC1020
import Derived.Test.YtlmpnmnfloeoiaaGreatC10H
set_option linter.unusedVariables false
set_option linter.unusedSimpArgs false
set_option maxRecDepth 100000
set_option maxHeartbeats 16000000
namespace Go.Proofs.YtlmpnmnfloeoiaaGreat.R
open Go.RowKit Go.Proofs.YtlmpnmnfloeoiaaGreat.D Go.Proofs.YtlmpnmnfloeoiaaGreat.O Go.Proofs.YtlmpnmnfloeoiaaGreat.A
theorem cQ.rdB {lo hi B : Nat} {w : World} {vs : List Value} {c : Cls} (h : cQ lo hi w vs c) (hB : B ≤ lo) : cP (fun b => B ≤ b) w vs c := by
  obtain ⟨vi, vf, vm, rs, e, h1, h2, h3, h4⟩ := h
  exact ⟨vi, vf, vm, e, h1.step (sP.grow _) (fun b hb _ => Nat.le_trans hB hb.1) (fun _ _ _ => rfl) (Nat.le_refl _), h2.step (sP.grow _) (fun b hb _ => Nat.le_trans hB hb.1) (fun _ _ _ => rfl) (Nat.le_refl _), (h3.rd.step (sP.grow _) (fun b hb _ => Nat.le_trans hB hb.1) (fun _ _ _ => rfl) (Nat.le_refl _)).raw (h4.imp (fun r m h => mP.grow _ _ _ _ _ _ h (fun b hb _ => Nat.le_trans hB hb.1) (fun _ _ _ => rfl) (Nat.le_refl _)))⟩
def runM : Mth := ⟨⟨#[114, 117, 110]⟩, [], (1, ⟨#[]⟩), false, true, 0, [], []⟩
def moreC (c : Cls) (m : Mth) : Cls := ⟨c.name, c.super, c.ifaces, c.kind, c.fields, c.methods ++ [m]⟩
def RwJ (W : World) (B g cap : Nat) (vi vf vm : Value) (rs9 : List (Raw 9)) (rs : List (Raw 6)) (K : List Cls) (lo hi : Nat → Nat) (j : Nat) (c : Cls) (r : Raw 6) : Prop :=
  RwQ W B (.slice (some ⟨g, 0, none⟩) K.length cap) rs K lo hi ∧ K[j]? = some c ∧ rs[j]? = some r ∧ rawC r = [.string c.name, .string c.super, vi, .int .i64 c.kind, vf, vm] ∧ RdX 1 (sP strC) (okQ (lo j) (hi j) vm) W vi c.ifaces ∧ RdX 4 (sP fldC) (okQ (lo j) (hi j) vm) W vf c.fields ∧
    OwnR 9 42 rawC (okI (lo j) (hi j)) W vm rs9 ∧ All2 (fun r m => mP (okQ (lo j) (hi j) vm) W (rawC r) m) rs9 c.methods
theorem RwQ.at {W : World} {B : Nat} {va : Value} {rs : List (Raw 6)} {K : List Cls} {lo hi : Nat → Nat} {j : Nat} {c : Cls} (h : RwQ W B va rs K lo hi) (hc : K[j]? = some c) :
    ∃ g cap vi vf vm rs9 r, va = .slice (some ⟨g, 0, none⟩) K.length cap ∧ RwJ W B g cap vi vf vm rs9 rs K lo hi j c r := by
  obtain ⟨r, er, vi, vf, vm, rs9, e, h1, h2, h3, h4⟩ := h.2.2.1 j c hc
  have hn : rs.length ≠ 0 := by have := (List.getElem?_eq_some_iff.1 er).1; omega
  obtain ⟨g, cap, e2, -⟩ := h.1.row hn
  rw [h.2.1] at e2
  subst e2
  exact ⟨g, cap, vi, vf, vm, rs9, r, rfl, h, hc, er, e, h1, h2, h3, h4⟩
theorem RwJ.below {W W' : World} {B g cap : Nat} {vi vf vm : Value} {rs9 : List (Raw 9)} {rs : List (Raw 6)} {K : List Cls} {lo hi : Nat → Nat} {j : Nat} {c : Cls} {r : Raw 6} (h : RwJ W B g cap vi vf vm rs9 rs K lo hi j c r) (hb : Below W.heap.size W W') : RwJ W' B g cap vi vf vm rs9 rs K lo hi j c r := by
  obtain ⟨h1, h2, h3, h4, h5, h6, h7, h8⟩ := h
  exact ⟨h1.below hb, h2, h3, h4, h5.any (sP.grow _) hb, h6.any (sP.grow _) hb, h7.step (fun _ h _ => h) (fun b _ hl => hb.block b hl), h8.imp (fun r m h => mP.grow _ _ _ _ _ _ h (fun _ h _ => h) (.of_below hb) hb.size)⟩
theorem RwJ.row {W : World} {B g cap : Nat} {vi vf vm : Value} {rs9 : List (Raw 9)} {rs : List (Raw 6)} {K : List Cls} {lo hi : Nat → Nat} {j : Nat} {c : Cls} {r : Raw 6} (h : RwJ W B g cap vi vf vm rs9 rs K lo hi j c r) : B ≤ g ∧ g < W.heap.size ∧ (∀ k, W.frozen? ⟨g, k, none⟩ = false) ∧ W.cell? ⟨g, j * 6 + 5, none⟩ = some vm := by
  obtain ⟨g', cap', e, -, h1, h2, h3, h4, -⟩ := h.1.1.put1 (y := r) (j := 0) (u := (rawC r)[0]?.getD (.bool true)) h.2.2.1 (by decide) (by rw [h.2.2.2.1]; rfl)
  simp only [Value.slice.injEq, Option.some.injEq, Addr.mk.injEq, and_true] at e
  obtain ⟨e, -⟩ := e
  subst e
  exact ⟨h1, h2, h3, h4 5 _ (by rw [h.2.2.2.1]; rfl)⟩
theorem RwJ.cell {W : World} {B g cap : Nat} {vi vf vm : Value} {rs9 : List (Raw 9)} {rs : List (Raw 6)} {K : List Cls} {lo hi : Nat → Nat} {c : Cls} {r : Raw 6} (h : RwJ W B g cap vi vf vm rs9 rs K lo hi 4 c r) : W.cell? ⟨g, 29, none⟩ = some vm := h.row.2.2.2
theorem RwJ.more {W w6 : World} {B g cap : Nat} {vi vf vm v6 : Value} {rs9 : List (Raw 9)} {rs : List (Raw 6)} {K : List Cls} {lo hi : Nat → Nat} {c : Cls} {r : Raw 6} {rM : Raw 9} {m : Mth} (h : RwJ W B g cap vi vf vm rs9 rs K lo hi 4 c r) (hB : B ≤ W.heap.size)
    (ho : OwnX 9 42 (sP rawC) w6 0 v6 (rs9 ++ [rM])) (hg : W.grownBy w6 vm.ownBlock) (hl : v6.ownBlock = vm.ownBlock ∨ v6.ownBlock = some W.heap.size) (hm : ∀ W okW, mP okW W (rawC rM) m) :
    g < w6.heap.size ∧ w6.frozen? ⟨g, 29, none⟩ = false ∧ w6.cell? ⟨g, 29, none⟩ = some vm ∧ RdX 6 cP (fun b => B ≤ b) (w6.setCell ⟨g, 29, none⟩ v6) (.slice (some ⟨g, 0, none⟩) K.length cap) (K.set 4 (moreC c m)) ∧ Below B W (w6.setCell ⟨g, 29, none⟩ v6) ∧ ∀ b, b < W.heap.size → b ≠ g → vm.ownBlock ≠ some b → (w6.setCell ⟨g, 29, none⟩ v6).heap[b]? = W.heap[b]? := by
  obtain ⟨hBg, hgl, hfr, hcell⟩ := h.row
  obtain ⟨h1, h2, h3, h4, h5, h6, h7, h8⟩ := h
  obtain ⟨q1, q2, q3, q4, q5⟩ := h1
  have hj4 := (List.getElem?_eq_some_iff.1 h2).1
  have hvm : ∀ x, vm.ownBlock = some x → lo 4 ≤ x ∧ x < hi 4 := fun x e => h7.2 x e
  have hgj : ∀ j, j < K.length → ¬ (lo j ≤ g ∧ g < hi j) := fun j hj => (q4 j hj).2.2 g rfl
  have hvg : vm.ownBlock ≠ some g := fun e => hgj 4 hj4 (hvm g e)
  have hbg : w6.heap[g]? = W.heap[g]? := hg.block g hgl (fun e => hvg e.symm)
  have hv6g : v6.ownBlock ≠ some g := by
    rcases hl with e | e
    · rw [e]; exact hvg
    · rw [e]; simp only [ne_eq, Option.some.injEq]; omega
  have k1 : Kpt vm.ownBlock.toList W w6 := .of_grown hg (fun g e => .inl (by rw [e]; simp))
  have k2 : Kpt [g] w6 (w6.setCell ⟨g, 29, none⟩ v6) := Kpt.set _ _ _ _ _ (by simp)
  have hone : v6.oneCell' = true := by obtain ⟨p, n, c, rfl⟩ := ho.slice; rfl
  obtain ⟨y, hy⟩ : ∃ y : Raw 6, rawC y = (rawC r).set 5 v6 := ⟨⟨(rawC r).set 5 v6, by rw [List.length_set]; exact r.2.1, fun v hv => by
    rcases List.mem_or_eq_of_mem_set hv with h | h
    · exact r.2.2 v h
    · rw [h]; exact hone⟩, rfl⟩
  have q1' : OwnX 6 27 (sP rawC) w6 B (.slice (some ⟨g, 0, none⟩) K.length cap) rs := q1.kptS k1 (fun x e hx => by
    cases e
    exact hvg (by simpa using hx))
  obtain ⟨g', cap', e, -, a1, a2, a3, a4, a5⟩ := q1'.put1 (u := v6) h3 (by decide) hy
  simp only [Value.slice.injEq, Option.some.injEq, Addr.mk.injEq, and_true] at e
  obtain ⟨e, -⟩ := e
  subst e
  have hsz : W.heap.size ≤ (w6.setCell ⟨g, 29, none⟩ v6).heap.size := Nat.le_trans hg.size k2.size
  have hkeep : ∀ ok : Nat → Prop, (∀ b, ok b → b ≠ g ∧ vm.ownBlock ≠ some b) → Keeps ok W (w6.setCell ⟨g, 29, none⟩ v6) := fun ok hok b hb hlb => by
    rw [k2.2 b (Nat.lt_of_lt_of_le hlb hg.size) (by simpa using (hok b hb).1), hg.block b hlb (fun e => (hok b hb).2 e.symm)]
  have hkq : Keeps (okQ (lo 4) (hi 4) vm) W (w6.setCell ⟨g, 29, none⟩ v6) := hkeep _ (fun b hb => ⟨fun e => hgj 4 hj4 (by rw [← e]; exact ⟨hb.1, hb.2.1⟩), hb.2.2⟩)
  have ht : ∀ b, okQ (lo 4) (hi 4) vm b → b < W.heap.size → B ≤ b := fun b hb _ => Nat.le_trans (q4 4 hj4).1 hb.1
  have hvB : ∀ x, v6.ownBlock = some x → B ≤ x := fun x e => by
    rcases hl with e' | e'
    · rw [e'] at e; exact Nat.le_trans (q4 4 hj4).1 (hvm x e).1
    · rw [e'] at e; cases e; exact hB
  refine ⟨a2, a3 _, a4 5 _ (by rw [h4]; rfl), ?_, ?_, fun b hb hbg hbv => (k2.2 b (Nat.lt_of_lt_of_le hb hg.size) (by simpa using hbg)).trans (hg.block b hb (fun e => hbv e.symm))⟩
  · refine RdX.raw (rs := rs.set 4 y) ?_ (all2_of (by rw [List.length_set, List.length_set]; exact q2) (fun j d hd => ?_))
    · exact a5.rd (sP.grow _)
    · by_cases hj : j = 4
      · subst hj
        rw [List.getElem?_set_self hj4] at hd
        cases hd
        refine ⟨y, by rw [List.getElem?_set_self (by rw [q2]; exact hj4)], vi, vf, v6, by rw [hy, h4]; rfl, h5.step (sP.grow _) ht hkq hsz, h6.step (sP.grow _) ht hkq hsz, ?_⟩
        refine RdX.raw (OwnR.rd ⟨ho.kptS k2 (fun x e hx => hv6g (by rw [e, List.mem_singleton.1 hx])), hvB⟩) ?_
        exact (h8.imp (fun r m h => mP.grow _ _ _ _ _ _ h ht hkq hsz)).app ⟨hm _ _, trivial⟩
      · rw [List.getElem?_set_ne (fun e => hj e.symm)] at hd
        obtain ⟨r', e', q'⟩ := q3 j d hd
        have hjl := (List.getElem?_eq_some_iff.1 hd).1
        refine ⟨r', by rw [List.getElem?_set_ne (fun e => hj e.symm)]; exact e', (q'.keep (hkeep _ (fun b hb => ⟨fun e => hgj j hjl (by rw [← e]; exact hb), fun e => ?_⟩)) hsz).rdB (q4 j hjl).1⟩
        have hv := hvm b e
        have hb1 := hb.1
        have hb2 := hb.2
        rcases Nat.lt_or_gt_of_ne hj with hlt | hlt
        · have := q5 j 4 hlt hj4; omega
        · have := q5 4 j hlt hjl; omega
  · have b1 : Below B W w6 := ⟨hg.os, hg.tape, hg.output, hg.size, fun k hk => hg.block k (by omega) (fun e => by have := (hvm k e.symm).1; have := (q4 4 hj4).1; omega)⟩
    exact b1.trans (k2.below (fun x hx => by simp at hx; omega) (Nat.le_trans hB hg.size))
def BnS (W w0 : World) (xb B g cap : Nat) (vi vf vm : Value) (rs9 : List (Raw 9)) (rs : List (Raw 6)) (K : List Cls) (lo hi : Nat → Nat) (c : Cls) (r : Raw 6) : Prop :=
  RwJ W B g cap vi vf vm rs9 rs K lo hi 4 c r ∧ W.heap[xb]? = some (.cells #[.slice (some ⟨g, 0, none⟩) K.length cap] 30 (0, 0)) ∧ Below w0.heap.size w0 W
theorem BnS.below {W W' w0 : World} {xb B g cap : Nat} {vi vf vm : Value} {rs9 : List (Raw 9)} {rs : List (Raw 6)} {K : List Cls} {lo hi : Nat → Nat} {c : Cls} {r : Raw 6} (h : BnS W w0 xb B g cap vi vf vm rs9 rs K lo hi c r) (hb : Below W.heap.size W W') : BnS W' w0 xb B g cap vi vf vm rs9 rs K lo hi c r :=
  ⟨h.1.below hb, (hb.block _ (Array.getElem?_eq_some_iff.1 h.2.1).1).trans h.2.1, h.2.2.trans (hb.mono h.2.2.size)⟩
set_option maxHeartbeats 8000000 in
set_option maxRecDepth 100000 in
theorem Bent_h (A : List Cls) (p : Option Addr) (cap : Nat) (ok : Nat → Prop) (w : World) (hr : RdX 6 cP ok w (.slice p A.length cap) A) (h4 : 4 < A.length) (hl : A.length ≤ 100000) (hf : ∀ c ∈ A, FewC c) (c : Cls) (hc : A[4]? = some c) (hcm : c.methods.length ≤ 1000) :
    Calls Tryz.prog 14 #[.agg #[.slice p A.length cap], .int .u8 5, .int .u16 4, .int .u16 0, .int .i64 1, .string ⟨#[]⟩] w fun e w' => ∃ p' c', e = .returned (.agg #[.slice p' A.length c']) ∧ RdX 6 cP anyB w' (.slice p' A.length c') (A.set 4 (moreC c runM)) ∧ Below w.heap.size w w' := by
  have HM := Lib.hid hr
  have HF := Lib.hid hf
  have HC := Lib.hid hc
  clear hr hf hc
  go_enter Tryz.func14, Tryz.ntmps14
  obtain ⟨w0, hw0⟩ : ∃ x, x = (w.alloc (.cells #[.slice p A.length cap] 30)).alloc (.cells #[.slice none 0 0] 30) := ⟨_, rfl⟩
  have b1 := below_alR w (.cells #[.slice p A.length cap] 30)
  have b2 := below_alR (w.alloc (.cells #[.slice p A.length cap] 30)) (.cells #[.slice none 0 0] 30)
  have HP : Hid (w0.heap[w.heap.size]? = some (.cells #[.slice p A.length cap] 30 (0, 0))) := Lib.hid (by rw [hw0, b2.block _ (by simp)]; exact heap_alloc_new _ _)
  have HR : Hid (w0.heap[w.heap.size + 1]? = some (.cells #[.slice none 0 0] 30 (0, 0))) := Lib.hid (by rw [hw0]; have := heap_alloc_new (w.alloc (.cells #[.slice p A.length cap] 30)) (.cells #[.slice none 0 0] 30); rwa [World.size_alloc] at this)
  have HB0 : Hid (Below w.heap.size w w0) := Lib.hid (by rw [hw0]; exact b1.trans (b2.mono (by simp)))
  have HZ0 : Hid (w0.heap.size = w.heap.size + 2) := Lib.hid (by rw [hw0]; simp)
  clear b1 b2
  go_upto_region 1 with fail
  rw [← hw0]
  clear hw0
  obtain ⟨p_l, p_c, -⟩ := boxN HP.out
  have p_0 := p_c 0 _ rfl
  simp only [Nat.zero_add] at p_0
  clear p_c
  go_wp2_with fail
  refine (copied_h A p cap ok w0 (HM.out.any cP.grow HB0.out) hl HF.out).mono ?_
  rintro e w1 ⟨va, rs, lo, hi, rfl, hQ, hB1⟩
  obtain ⟨g, gc, vi, vf, vm, rs9, r, hva, hJ⟩ := hQ.at HC.out
  subst hva
  have hr1 := (hB1.block _ (by have := HZ0.out; omega)).trans HR.out
  obtain ⟨pm, nm, cm, hvm⟩ := hJ.2.2.2.2.2.2.1.1.slice
  subst hvm
  obtain ⟨w2, hw2⟩ : ∃ x, x = w1.alloc (.cells #[.slice (some ⟨g, 0, none⟩) A.length gc] 30) := ⟨_, rfl⟩
  have bA := below_alR w1 (.cells #[.slice (some ⟨g, 0, none⟩) A.length gc] 30)
  have HJ := Lib.hid (hJ.below bA)
  have HX : Hid ((w1.alloc (.cells #[.slice (some ⟨g, 0, none⟩) A.length gc] 30)).heap[w1.heap.size]? = some (.cells #[.slice (some ⟨g, 0, none⟩) A.length gc] 30 (0, 0))) := Lib.hid (heap_alloc_new _ _)
  have HR2 : Hid ((w1.alloc (.cells #[.slice (some ⟨g, 0, none⟩) A.length gc] 30)).heap[w.heap.size + 1]? = some (.cells #[.slice none 0 0] 30 (0, 0))) := Lib.hid ((bA.block _ (by have := HZ0.out; have := hB1.size; omega)).trans hr1)
  have HB2 : Hid (Below w0.heap.size w0 (w1.alloc (.cells #[.slice (some ⟨g, 0, none⟩) A.length gc] 30))) := Lib.hid (hB1.trans (bA.mono hB1.size))
  rw [← hw2] at HJ HX HR2 HB2
  have HZ1 := Lib.hid hB1.size
  have HRL : Hid (rs9.length + 1 ≤ 1000000) := Lib.hid (by have := hJ.2.2.2.2.2.2.2.len; omega)
  have HNE : Hid (w1.heap.size ≠ g ∧ (Value.slice pm nm cm).ownBlock ≠ some w1.heap.size ∧ (Value.slice pm nm cm).ownBlock ≠ some (w.heap.size + 1) ∧ w.heap.size + 1 ≠ g) := Lib.hid (by
    have h1 := hJ.row
    have h2 := hJ.2.2.2.2.2.2.1.1.lt
    have h3 := hJ.2.2.2.2.2.2.1.2
    have h5 := hJ.1.2.2.2.1 4 h4
    have h6 := HZ0.out
    refine ⟨by omega, fun e => ?_, fun e => ?_, by omega⟩
    · have := (h2 _ e).2; omega
    · have := (h3 _ e).1; omega)
  clear bA hQ hJ hr1 hB1 p_l p_0
  go_upto_region 2 with fail
  rw [← hw2]
  clear hw2
  obtain ⟨xb, hxb⟩ : ∃ x, w1.heap.size = x := ⟨_, rfl⟩
  rw [hxb] at HX HZ1 HNE ⊢
  clear hxb
  obtain ⟨x_l, x_c, x_f⟩ := boxN HX.out
  have x_0 := x_c 0 _ rfl
  simp only [Nat.zero_add] at x_0
  clear x_c x_f
  have hn0 : ¬ ((A.length : Int) = 0) := by omega
  have hn4 : (4 : Int) < (A.length : Int) := by omega
  have hmod : Int.tmod 4 (A.length : Int) = 4 := by rw [Int.tmod_eq_of_lt (by omega) hn4]
  have hA : ¬ A = [] := by rintro rfl; simp at h4
  have hw4 : IntKind.i64.wrap 4 = 4 := by decide
  go_upto_region 4 with fail
  go_cut [14] (fun s14 wx => s14 = .pointer (some ⟨g, 24, none⟩) ∧ Hid (wx = w2.drew))
  case first =>
    go_region_law (fail)
    all_goals
      go_wp2_with fail
      go_meet
      case rel => exact ⟨rfl, Lib.hid rfl⟩
  case rest =>
    obtain ⟨rfl, hwx⟩ := hcut
    have HXx : Hid (wc.heap[xb]? = some (.cells #[.slice (some ⟨g, 0, none⟩) A.length gc] 30 (0, 0))) := Lib.hid (by rw [hwx.out]; exact HX.out)
    have HS : Hid (BnS wc.drew w0 xb w0.heap.size g gc vi vf (.slice pm nm cm) rs9 rs A lo hi c r) := Lib.hid (by rw [hwx.out]; exact BnS.below (W := w2) ⟨HJ.out, HX.out, HB2.out⟩ (((Below.refl _ _).drew).drew))
    have HRx : Hid (wc.heap[w.heap.size + 1]? = some (.cells #[.slice none 0 0] 30 (0, 0))) := Lib.hid (by rw [hwx.out]; exact HR2.out)
    clear hwx HJ HX HB2 HR2 x_l x_0
    obtain ⟨rM, hrM⟩ : ∃ r : Raw 9, rawC r = [.string ⟨#[114, 117, 110]⟩, .slice none 0 0, .int .i64 1, .string ⟨#[]⟩, .bool false, .bool true, .int .i64 0, .slice none 0 0, .slice none 0 0] := ⟨⟨[.string ⟨#[114, 117, 110]⟩, .slice none 0 0, .int .i64 1, .string ⟨#[]⟩, .bool false, .bool true, .int .i64 0, .slice none 0 0, .slice none 0 0], rfl, by simp [Value.oneCell']⟩, rfl⟩
    have HRM := Lib.hid hrM
    clear hrM
    go_upto_region 17 with fail
    refine wp_region_held_drew (S := fun _ => True) (by kernel_rfl) trivial (fun hHeld => ?_)
    refine wpAnyH_take (i := 0) (oi := _) (v := ?_) (by simp only [List.getElem?_toArray, List.getElem?_cons_zero]; rfl) (by kernel_rfl) (by kernel_rfl) (by kernel_rfl) (by intro _ _ _ h; exact h) (Or.inl ⟨by rfl, fun W hSw => ?_⟩) hHeld ?_
    rotate_left 1
    · (clear hSw; first | (go_simp; done) | (go_simp; with_reducible rfl))
    try go_frame
    refine wpAnyH_take (i := 1) (oi := _) (v := ?_) (by simp only [List.getElem?_toArray, List.getElem?_cons_succ, List.getElem?_cons_zero]; rfl) (by kernel_rfl) (by kernel_rfl) (by kernel_rfl) (by intro _ _ _ h; exact h) (Or.inl ⟨by rfl, fun W hSw => ?_⟩) hHeld ?_
    rotate_left 1
    · (clear hSw; first | (go_simp; done) | (go_simp; with_reducible rfl))
    try go_frame
    refine wpAnyH_take (i := 2) (oi := _) (v := ?_) (by simp only [List.getElem?_toArray, List.getElem?_cons_succ, List.getElem?_cons_zero]; rfl) (by kernel_rfl) (by kernel_rfl) (by kernel_rfl) (by intro _ _ _ h; exact h) (Or.inl ⟨by rfl, fun W hSw => ?_⟩) hHeld ?_
    rotate_left 1
    · (clear hSw; first | (go_simp; done) | (go_simp; with_reducible rfl))
    try go_frame
    refine wpAnyH_take (i := 3) (oi := _) (v := ?_) (by simp only [List.getElem?_toArray, List.getElem?_cons_succ, List.getElem?_cons_zero]; rfl) (by kernel_rfl) (by kernel_rfl) (by kernel_rfl) (by intro _ _ _ h; exact h) (Or.inl ⟨by rfl, fun W hSw => ?_⟩) hHeld ?_
    rotate_left 1
    · (clear hSw; first | (go_simp; done) | (go_simp; with_reducible rfl))
    try go_frame
    refine wpAnyH_take (i := 6) (oi := _) (v := ?_) (by simp only [List.getElem?_toArray, List.getElem?_cons_succ, List.getElem?_cons_zero]; rfl) (by kernel_rfl) (by kernel_rfl) (by kernel_rfl) (by intro _ _ _ h; exact h) (Or.inl ⟨by rfl, fun W hSw => ?_⟩) hHeld ?_
    rotate_left 1
    · (clear hSw; first | (go_simp; done) | (go_simp; with_reducible rfl))
    try go_frame
    refine wpAnyH_take (i := 7) (oi := _) (v := ?_) (by simp only [List.getElem?_toArray, List.getElem?_cons_succ, List.getElem?_cons_zero]; rfl) (by kernel_rfl) (by kernel_rfl) (by kernel_rfl) (by intro _ _ _ h; exact h) (Or.inl ⟨by rfl, fun W hSw => ?_⟩) hHeld ?_
    rotate_left 1
    · (clear hSw; first | (go_simp; done) | (go_simp; with_reducible rfl))
    try go_frame
    refine wpAnyH_take (i := 8) (oi := _) (v := ?_) (by simp only [List.getElem?_toArray, List.getElem?_cons_succ, List.getElem?_cons_zero]; rfl) (by kernel_rfl) (by kernel_rfl) (by kernel_rfl) (by intro _ _ _ h; exact h) (Or.inl ⟨by rfl, fun W hSw => ?_⟩) hHeld ?_
    rotate_left 1
    · (clear hSw; first | (go_simp; done) | (go_simp; with_reducible rfl))
    try go_frame
    refine wpAnyH_ready (rs := [4, 5]) (by kernel_rfl) (by simp) ?_
    refine AllReadyH.cons (o := _) (by simp only [List.getElem?_toArray, List.getElem?_cons_succ, List.getElem?_cons_zero]; rfl) (fun KX hKX => ?_) ?_
    · clear hHeld
      have hy := HS.out.1.cell
      go_simp
      clear hy
      refine hKX.out _ _ trivial (fun hHeld => ?_)
      clear hKX KX
      try go_frame
      refine wpAnyH_ready (rs := [5]) (by kernel_rfl) (by simp) ?_
      refine AllReadyH.cons (o := _) (by simp only [List.getElem?_toArray, List.getElem?_cons_succ, List.getElem?_cons_zero]; rfl) (fun KX hKX => ?_) AllReadyH.nil
      clear hHeld
      go_simp
      refine (typ_v 1 _).mono ?_
      rintro e wx ⟨rfl, hbx⟩
      replace HS := Lib.hid (HS.out.below hbx)
      clear hbx
      refine hKX.out _ _ trivial (fun hHeld => ?_)
      clear hKX KX
      try go_frame
      refine wpAnyH_take (i := 9) (oi := _) (v := ?_) (by simp only [List.getElem?_toArray, List.getElem?_cons_succ, List.getElem?_cons_zero]; rfl) (by kernel_rfl) (by kernel_rfl) (by kernel_rfl) (by intro _ _ _ h; exact h) (Or.inl ⟨by rfl, fun W hSw => ?_⟩) hHeld ?_
      rotate_left 1
      · (clear hSw; first | (go_simp; done) | (go_simp; with_reducible rfl))
      try go_frame
      refine wpAnyH_ready (rs := [10]) (by kernel_rfl) (by simp) ?_
      refine AllReadyH.cons (o := _) (by simp only [List.getElem?_toArray, List.getElem?_cons_succ, List.getElem?_cons_zero]; rfl) (fun KX hKX => ?_) AllReadyH.nil
      clear hHeld
      go_simp
      have hsrc := Lib.hid (rdX_lit1 rawC_len wx rM #[.string ⟨#[114, 117, 110]⟩, .slice none 0 0, .int .i64 1, .string ⟨#[]⟩, .bool false, .bool true, .int .i64 0, .slice none 0 0, .slice none 0 0] 42 (by rw [HRM.out]))
      replace HS := Lib.hid (HS.out.below (below_alR wx (.cells #[.string ⟨#[114, 117, 110]⟩, .slice none 0 0, .int .i64 1, .string ⟨#[]⟩, .bool false, .bool true, .int .i64 0, .slice none 0 0, .slice none 0 0] 42)))
      refine hKX.out _ _ trivial (fun hHeld => ?_)
      clear hKX KX
      try go_frame
      refine wpAnyH_ready (rs := [11]) (by kernel_rfl) (by simp) ?_
      refine AllReadyH.cons (o := _) (by simp only [List.getElem?_toArray, List.getElem?_cons_succ, List.getElem?_cons_zero]; rfl) (fun KX hKX => ?_) AllReadyH.nil
      clear hHeld
      refine step_appM inf_mth (shape_raw 9) (by rfl) _ _ (by rfl) 0 _ rs9 (by rfl) HS.out.1.2.2.2.2.2.2.1.1 _ 0 1 1 [rM] (by rfl) hsrc.out HRL.out (Nat.zero_le _) ?_
      intro v6 w6 ho6 hg6 hl6
      obtain ⟨e1, e2, e3, hR6, hB6, hk6⟩ := HS.out.1.more HS.out.2.2.size ho6 hg6 hl6 (m := runM) (fun W okW => by rw [HRM.out]; exact ⟨_, _, _, rfl, RdX.nil _ _ _ _, RdX.nil _ _ _ _, RdX.nil _ _ _ _⟩)
      obtain ⟨pq, nq, cq, hv6⟩ := ho6.slice
      subst hv6
      have HX6 := Lib.hid ((hk6 xb (Array.getElem?_eq_some_iff.1 HS.out.2.1).1 HNE.out.1 HNE.out.2.1).trans HS.out.2.1)
      have HR6 := Lib.hid hR6
      have HB6 := Lib.hid (HS.out.2.2.trans hB6)
      clear hR6 hB6 hk6 ho6 hg6 hl6 hsrc HS
      refine hKX.out _ _ trivial (fun hHeld => ?_)
      clear hKX KX
      try go_frame
      refine wpAnyH_take (i := 12) (oi := _) (v := ?_) (by simp only [List.getElem?_toArray, List.getElem?_cons_succ, List.getElem?_cons_zero]; rfl) (by kernel_rfl) (by kernel_rfl) (by kernel_rfl) (by intro _ _ _ h; exact h) (Or.inl ⟨by rfl, fun W hSw => ?_⟩) hHeld ?_
      rotate_left 1
      · (clear hSw; first | (go_simp; done) | (go_simp; with_reducible rfl))
      try go_frame
      refine wpAnyH_take (i := 13) (oi := _) (v := ?_) (by simp only [List.getElem?_toArray, List.getElem?_cons_succ, List.getElem?_cons_zero]; rfl) (by kernel_rfl) (by kernel_rfl) (by kernel_rfl) (by intro _ _ _ h; exact h) (Or.inl ⟨by rfl, fun W hSw => ?_⟩) hHeld ?_
      rotate_left 1
      · (clear hSw; first | (go_simp; done) | (go_simp; with_reducible rfl))
      try go_frame
      refine wpAnyH_ready (rs := [14]) (by kernel_rfl) (by simp) ?_
      refine AllReadyH.cons (o := _) (by simp only [List.getElem?_toArray, List.getElem?_cons_succ, List.getElem?_cons_zero]; rfl) (fun KX hKX => ?_) AllReadyH.nil
      clear hHeld
      go_simp
      clear e1 e2 e3
      refine hKX.out _ _ trivial (fun hHeld => ?_)
      clear hKX KX
      try go_frame
      refine wpAnyH_done (by kernel_rfl) ?_ _
      obtain ⟨W7, hW7⟩ : ∃ x, x = w6.setCell ⟨g, 29, none⟩ (.slice pq nq cq) := ⟨_, rfl⟩
      rw [← hW7] at HR6 HB6 HX6 ⊢
      clear hW7 hHeld
      have hrb := (HB6.out.block (w.heap.size + 1) (by have := HZ0.out; omega)).trans HR.out
      obtain ⟨x_l, x_c, -⟩ := boxN HX6.out
      have x_0 := x_c 0 _ rfl
      obtain ⟨r_l, r_c, r_f⟩ := boxN hrb
      have r_0 := r_c 0 _ rfl
      have r_z := r_f 0
      simp only [Nat.zero_add] at x_0 r_0
      clear x_c r_c r_f hrb
      go_wp2_with fail
      have k1 : Kpt [w.heap.size + 1] W7 (W7.setCell ⟨w.heap.size + 1, 0, none⟩ (.slice (some ⟨g, 0, none⟩) A.length gc)) := Kpt.set _ _ _ _ _ (by simp)
      refine bodyPost_ret (v := .agg #[.slice (some ⟨g, 0, none⟩) A.length gc]) (by simp [*, results, Tryz.results14, go_sem]) rfl ?_
      have hz := HZ0.out
      exact ⟨_, _, rfl, HR6.out.step cP.grow (fun _ _ _ => trivial) (fun b hb hl => k1.2 b hl (by simp; omega)) k1.size, (HB0.out.trans (HB6.out.mono (by omega))).trans (k1.below (fun x hx => by simp at hx; omega) (by have := HB6.out.size; omega))⟩
    refine AllReadyH.cons (o := _) (by simp only [List.getElem?_toArray, List.getElem?_cons_succ, List.getElem?_cons_zero]; rfl) (fun KX hKX => ?_) AllReadyH.nil
    clear hHeld
    go_simp
    refine (typ_v 1 _).mono ?_
    rintro e wx ⟨rfl, hbx⟩
    replace HS := Lib.hid (HS.out.below hbx)
    clear hbx
    refine hKX.out _ _ trivial (fun hHeld => ?_)
    clear hKX KX
    try go_frame
    refine wpAnyH_take (i := 9) (oi := _) (v := ?_) (by simp only [List.getElem?_toArray, List.getElem?_cons_succ, List.getElem?_cons_zero]; rfl) (by kernel_rfl) (by kernel_rfl) (by kernel_rfl) (by intro _ _ _ h; exact h) (Or.inl ⟨by rfl, fun W hSw => ?_⟩) hHeld ?_
    rotate_left 1
    · (clear hSw; first | (go_simp; done) | (go_simp; with_reducible rfl))
    try go_frame
    refine wpAnyH_ready (rs := [4, 10]) (by kernel_rfl) (by simp) ?_
    refine AllReadyH.cons (o := _) (by simp only [List.getElem?_toArray, List.getElem?_cons_succ, List.getElem?_cons_zero]; rfl) (fun KX hKX => ?_) ?_
    · clear hHeld
      have hy := HS.out.1.cell
      go_simp
      clear hy
      refine hKX.out _ _ trivial (fun hHeld => ?_)
      clear hKX KX
      try go_frame
      refine wpAnyH_ready (rs := [10]) (by kernel_rfl) (by simp) ?_
      refine AllReadyH.cons (o := _) (by simp only [List.getElem?_toArray, List.getElem?_cons_succ, List.getElem?_cons_zero]; rfl) (fun KX hKX => ?_) AllReadyH.nil
      clear hHeld
      go_simp
      have hsrc := Lib.hid (rdX_lit1 rawC_len wx rM #[.string ⟨#[114, 117, 110]⟩, .slice none 0 0, .int .i64 1, .string ⟨#[]⟩, .bool false, .bool true, .int .i64 0, .slice none 0 0, .slice none 0 0] 42 (by rw [HRM.out]))
      replace HS := Lib.hid (HS.out.below (below_alR wx (.cells #[.string ⟨#[114, 117, 110]⟩, .slice none 0 0, .int .i64 1, .string ⟨#[]⟩, .bool false, .bool true, .int .i64 0, .slice none 0 0, .slice none 0 0] 42)))
      refine hKX.out _ _ trivial (fun hHeld => ?_)
      clear hKX KX
      try go_frame
      refine wpAnyH_ready (rs := [11]) (by kernel_rfl) (by simp) ?_
      refine AllReadyH.cons (o := _) (by simp only [List.getElem?_toArray, List.getElem?_cons_succ, List.getElem?_cons_zero]; rfl) (fun KX hKX => ?_) AllReadyH.nil
      clear hHeld
      refine step_appM inf_mth (shape_raw 9) (by rfl) _ _ (by rfl) 0 _ rs9 (by rfl) HS.out.1.2.2.2.2.2.2.1.1 _ 0 1 1 [rM] (by rfl) hsrc.out HRL.out (Nat.zero_le _) ?_
      intro v6 w6 ho6 hg6 hl6
      obtain ⟨e1, e2, e3, hR6, hB6, hk6⟩ := HS.out.1.more HS.out.2.2.size ho6 hg6 hl6 (m := runM) (fun W okW => by rw [HRM.out]; exact ⟨_, _, _, rfl, RdX.nil _ _ _ _, RdX.nil _ _ _ _, RdX.nil _ _ _ _⟩)
      obtain ⟨pq, nq, cq, hv6⟩ := ho6.slice
      subst hv6
      have HX6 := Lib.hid ((hk6 xb (Array.getElem?_eq_some_iff.1 HS.out.2.1).1 HNE.out.1 HNE.out.2.1).trans HS.out.2.1)
      have HR6 := Lib.hid hR6
      have HB6 := Lib.hid (HS.out.2.2.trans hB6)
      clear hR6 hB6 hk6 ho6 hg6 hl6 hsrc HS
      refine hKX.out _ _ trivial (fun hHeld => ?_)
      clear hKX KX
      try go_frame
      refine wpAnyH_take (i := 12) (oi := _) (v := ?_) (by simp only [List.getElem?_toArray, List.getElem?_cons_succ, List.getElem?_cons_zero]; rfl) (by kernel_rfl) (by kernel_rfl) (by kernel_rfl) (by intro _ _ _ h; exact h) (Or.inl ⟨by rfl, fun W hSw => ?_⟩) hHeld ?_
      rotate_left 1
      · (clear hSw; first | (go_simp; done) | (go_simp; with_reducible rfl))
      try go_frame
      refine wpAnyH_take (i := 13) (oi := _) (v := ?_) (by simp only [List.getElem?_toArray, List.getElem?_cons_succ, List.getElem?_cons_zero]; rfl) (by kernel_rfl) (by kernel_rfl) (by kernel_rfl) (by intro _ _ _ h; exact h) (Or.inl ⟨by rfl, fun W hSw => ?_⟩) hHeld ?_
      rotate_left 1
      · (clear hSw; first | (go_simp; done) | (go_simp; with_reducible rfl))
      try go_frame
      refine wpAnyH_ready (rs := [14]) (by kernel_rfl) (by simp) ?_
      refine AllReadyH.cons (o := _) (by simp only [List.getElem?_toArray, List.getElem?_cons_succ, List.getElem?_cons_zero]; rfl) (fun KX hKX => ?_) AllReadyH.nil
      clear hHeld
      go_simp
      clear e1 e2 e3
      refine hKX.out _ _ trivial (fun hHeld => ?_)
      clear hKX KX
      try go_frame
      refine wpAnyH_done (by kernel_rfl) ?_ _
      obtain ⟨W7, hW7⟩ : ∃ x, x = w6.setCell ⟨g, 29, none⟩ (.slice pq nq cq) := ⟨_, rfl⟩
      rw [← hW7] at HR6 HB6 HX6 ⊢
      clear hW7 hHeld
      have hrb := (HB6.out.block (w.heap.size + 1) (by have := HZ0.out; omega)).trans HR.out
      obtain ⟨x_l, x_c, -⟩ := boxN HX6.out
      have x_0 := x_c 0 _ rfl
      obtain ⟨r_l, r_c, r_f⟩ := boxN hrb
      have r_0 := r_c 0 _ rfl
      have r_z := r_f 0
      simp only [Nat.zero_add] at x_0 r_0
      clear x_c r_c r_f hrb
      go_wp2_with fail
      have k1 : Kpt [w.heap.size + 1] W7 (W7.setCell ⟨w.heap.size + 1, 0, none⟩ (.slice (some ⟨g, 0, none⟩) A.length gc)) := Kpt.set _ _ _ _ _ (by simp)
      refine bodyPost_ret (v := .agg #[.slice (some ⟨g, 0, none⟩) A.length gc]) (by simp [*, results, Tryz.results14, go_sem]) rfl ?_
      have hz := HZ0.out
      exact ⟨_, _, rfl, HR6.out.step cP.grow (fun _ _ _ => trivial) (fun b hb hl => k1.2 b hl (by simp; omega)) k1.size, (HB0.out.trans (HB6.out.mono (by omega))).trans (k1.below (fun x hx => by simp at hx; omega) (by have := HB6.out.size; omega))⟩
    refine AllReadyH.cons (o := _) (by simp only [List.getElem?_toArray, List.getElem?_cons_succ, List.getElem?_cons_zero]; rfl) (fun KX hKX => ?_) AllReadyH.nil
    clear hHeld
    go_simp
    have hsrc := Lib.hid (rdX_lit1 rawC_len wx rM #[.string ⟨#[114, 117, 110]⟩, .slice none 0 0, .int .i64 1, .string ⟨#[]⟩, .bool false, .bool true, .int .i64 0, .slice none 0 0, .slice none 0 0] 42 (by rw [HRM.out]))
    replace HS := Lib.hid (HS.out.below (below_alR wx (.cells #[.string ⟨#[114, 117, 110]⟩, .slice none 0 0, .int .i64 1, .string ⟨#[]⟩, .bool false, .bool true, .int .i64 0, .slice none 0 0, .slice none 0 0] 42)))
    refine hKX.out _ _ trivial (fun hHeld => ?_)
    clear hKX KX
    try go_frame
    refine wpAnyH_ready (rs := [4]) (by kernel_rfl) (by simp) ?_
    refine AllReadyH.cons (o := _) (by simp only [List.getElem?_toArray, List.getElem?_cons_succ, List.getElem?_cons_zero]; rfl) (fun KX hKX => ?_) AllReadyH.nil
    clear hHeld
    have hy := HS.out.1.cell
    go_simp
    clear hy
    refine hKX.out _ _ trivial (fun hHeld => ?_)
    clear hKX KX
    try go_frame
    refine wpAnyH_ready (rs := [11]) (by kernel_rfl) (by simp) ?_
    refine AllReadyH.cons (o := _) (by simp only [List.getElem?_toArray, List.getElem?_cons_succ, List.getElem?_cons_zero]; rfl) (fun KX hKX => ?_) AllReadyH.nil
    clear hHeld
    refine step_appM inf_mth (shape_raw 9) (by rfl) _ _ (by rfl) 0 _ rs9 (by rfl) HS.out.1.2.2.2.2.2.2.1.1 _ 0 1 1 [rM] (by rfl) hsrc.out HRL.out (Nat.zero_le _) ?_
    intro v6 w6 ho6 hg6 hl6
    obtain ⟨e1, e2, e3, hR6, hB6, hk6⟩ := HS.out.1.more HS.out.2.2.size ho6 hg6 hl6 (m := runM) (fun W okW => by rw [HRM.out]; exact ⟨_, _, _, rfl, RdX.nil _ _ _ _, RdX.nil _ _ _ _, RdX.nil _ _ _ _⟩)
    obtain ⟨pq, nq, cq, hv6⟩ := ho6.slice
    subst hv6
    have HX6 := Lib.hid ((hk6 xb (Array.getElem?_eq_some_iff.1 HS.out.2.1).1 HNE.out.1 HNE.out.2.1).trans HS.out.2.1)
    have HR6 := Lib.hid hR6
    have HB6 := Lib.hid (HS.out.2.2.trans hB6)
    clear hR6 hB6 hk6 ho6 hg6 hl6 hsrc HS
    refine hKX.out _ _ trivial (fun hHeld => ?_)
    clear hKX KX
    try go_frame
    refine wpAnyH_take (i := 12) (oi := _) (v := ?_) (by simp only [List.getElem?_toArray, List.getElem?_cons_succ, List.getElem?_cons_zero]; rfl) (by kernel_rfl) (by kernel_rfl) (by kernel_rfl) (by intro _ _ _ h; exact h) (Or.inl ⟨by rfl, fun W hSw => ?_⟩) hHeld ?_
    rotate_left 1
    · (clear hSw; first | (go_simp; done) | (go_simp; with_reducible rfl))
    try go_frame
    refine wpAnyH_take (i := 13) (oi := _) (v := ?_) (by simp only [List.getElem?_toArray, List.getElem?_cons_succ, List.getElem?_cons_zero]; rfl) (by kernel_rfl) (by kernel_rfl) (by kernel_rfl) (by intro _ _ _ h; exact h) (Or.inl ⟨by rfl, fun W hSw => ?_⟩) hHeld ?_
    rotate_left 1
    · (clear hSw; first | (go_simp; done) | (go_simp; with_reducible rfl))
    try go_frame
    refine wpAnyH_ready (rs := [14]) (by kernel_rfl) (by simp) ?_
    refine AllReadyH.cons (o := _) (by simp only [List.getElem?_toArray, List.getElem?_cons_succ, List.getElem?_cons_zero]; rfl) (fun KX hKX => ?_) AllReadyH.nil
    clear hHeld
    go_simp
    clear e1 e2 e3
    refine hKX.out _ _ trivial (fun hHeld => ?_)
    clear hKX KX
    try go_frame
    refine wpAnyH_done (by kernel_rfl) ?_ _
    obtain ⟨W7, hW7⟩ : ∃ x, x = w6.setCell ⟨g, 29, none⟩ (.slice pq nq cq) := ⟨_, rfl⟩
    rw [← hW7] at HR6 HB6 HX6 ⊢
    clear hW7 hHeld
    have hrb := (HB6.out.block (w.heap.size + 1) (by have := HZ0.out; omega)).trans HR.out
    obtain ⟨x_l, x_c, -⟩ := boxN HX6.out
    have x_0 := x_c 0 _ rfl
    obtain ⟨r_l, r_c, r_f⟩ := boxN hrb
    have r_0 := r_c 0 _ rfl
    have r_z := r_f 0
    simp only [Nat.zero_add] at x_0 r_0
    clear x_c r_c r_f hrb
    go_wp2_with fail
    have k1 : Kpt [w.heap.size + 1] W7 (W7.setCell ⟨w.heap.size + 1, 0, none⟩ (.slice (some ⟨g, 0, none⟩) A.length gc)) := Kpt.set _ _ _ _ _ (by simp)
    refine bodyPost_ret (v := .agg #[.slice (some ⟨g, 0, none⟩) A.length gc]) (by simp [*, results, Tryz.results14, go_sem]) rfl ?_
    have hz := HZ0.out
    exact ⟨_, _, rfl, HR6.out.step cP.grow (fun _ _ _ => trivial) (fun b hb hl => k1.2 b hl (by simp; omega)) k1.size, (HB0.out.trans (HB6.out.mono (by omega))).trans (k1.below (fun x hx => by simp at hx; omega) (by have := HB6.out.size; omega))⟩
end Go.Proofs.YtlmpnmnfloeoiaaGreat.R
namespace Go.Proofs.YtlmpnmnfloeoiaaGreat.R
open Go.RowKit Go.Proofs.YtlmpnmnfloeoiaaGreat.D Go.Proofs.YtlmpnmnfloeoiaaGreat.O Go.Proofs.YtlmpnmnfloeoiaaGreat.A
def hmB (m : Mth) : Bool := decide (m.params.length ≤ 1000) && (m.params.all fun u => decide (u.2.size ≤ 1000)) && decide (m.ret.2.size ≤ 1000) && decide (m.name.size ≤ 1000) && decide (m.code.length ≤ 1000) && decide (m.hs.length ≤ 1000)
def hcB (c : Cls) : Bool := decide (c.name.size ≤ 1000) && decide (c.super.size ≤ 1000) && decide (c.ifaces.length ≤ 100) && (c.ifaces.all fun i => decide (i.size ≤ 1000)) && decide (c.fields.length ≤ 100) && (c.fields.all fun f => decide (f.1.size ≤ 1000) && decide (f.2.1.2.size ≤ 1000)) && decide (c.methods.length ≤ 40) && c.methods.all hmB
def hkB (A : List Cls) : Bool := decide (A.length ≤ 100) && A.all hcB && A.all fun c => decide (missK (keepL A) c.name).Nodup
theorem hmB_few {m : Mth} (h : hmB m = true) : FewM m ∧ SzM m ∧ m.name.size ≤ 1000000 := by
  unfold hmB at h
  simp only [Bool.and_eq_true, decide_eq_true_eq, List.all_eq_true] at h
  obtain ⟨⟨⟨⟨⟨h1, h2⟩, h3⟩, h4⟩, h5⟩, h6⟩ := h
  exact ⟨⟨by omega, by omega, by omega⟩, ⟨h1, fun u hu => Nat.le_trans (h2 u hu) (by decide), Nat.le_trans h3 (by decide)⟩, Nat.le_trans h4 (by decide)⟩
theorem askH_of {K : List Cls} (h1 : ∀ c ∈ K, FewC c) (h2 : ∀ c ∈ K, c.methods.length ≤ 40 ∧ ∀ m ∈ c.methods, SzM m ∧ m.name.size ≤ 1000000) (h3 : K.length ≤ 100) : AskH K := by
  refine ⟨h1, fun n => ?_, h3⟩
  unfold clsK findC bltC
  cases bltS n with
  | some s => exact ⟨Nat.zero_le _, fun m hm => by cases hm⟩
  | none =>
    cases hc : K.find? (fun c => decide (c.name = n)) with
    | none => exact ⟨Nat.zero_le _, fun m hm => by cases hm⟩
    | some c => exact h2 c (List.mem_of_find?_eq_some hc)
theorem ckA_of {A : List Cls} (h : hkB A = true) : CkA A := by
  unfold hkB at h
  simp only [Bool.and_eq_true, decide_eq_true_eq, List.all_eq_true] at h
  obtain ⟨⟨h1, h2⟩, h3⟩ := h
  have hm : 1000 ≤ maxLen := by unfold maxLen; omega
  have hc : ∀ c ∈ A, c.name.size ≤ 1000 ∧ c.super.size ≤ 1000 ∧ c.ifaces.length ≤ 100 ∧ (∀ i ∈ c.ifaces, i.size ≤ 1000) ∧ c.fields.length ≤ 100 ∧ (∀ f ∈ c.fields, f.1.size ≤ 1000 ∧ f.2.1.2.size ≤ 1000) ∧ c.methods.length ≤ 40 ∧ ∀ m ∈ c.methods, hmB m = true := fun c hc => by
    have := h2 c hc
    unfold hcB at this
    simp only [Bool.and_eq_true, decide_eq_true_eq, List.all_eq_true] at this
    obtain ⟨⟨⟨⟨⟨⟨⟨a1, a2⟩, a3⟩, a4⟩, a5⟩, a6⟩, a7⟩, a8⟩ := this
    exact ⟨a1, a2, a3, a4, a5, a6, a7, a8⟩
  have hf : ∀ c ∈ A, FewC c := fun c hx => few_cls (hc c hx).2.2.1 (hc c hx).2.2.2.2.1 (Nat.le_trans (hc c hx).2.2.2.2.2.2.1 (by decide)) (fun m hm => (hmB_few ((hc c hx).2.2.2.2.2.2.2 m hm)).1)
  refine ⟨⟨by rw [List.length_map]; omega, fun c hx => ?_⟩, hf, askH_of (keep_few hf) (fun c hx => ?_) (Nat.le_trans (keepL_sub A).length_le h1), fun c hx f hff => ?_, h3⟩
  · obtain ⟨d, hd, rfl⟩ := List.mem_map.1 hx
    obtain ⟨a1, a2, a3, a4, -⟩ := hc d hd
    exact ⟨Nat.le_trans a1 hm, Nat.le_trans a2 hm, a3, fun i hi => Nat.le_trans (a4 i hi) hm⟩
  · have hx' := keepL_mem A c hx
    exact ⟨(hc c hx').2.2.2.2.2.2.1, fun m hm => (hmB_few ((hc c hx').2.2.2.2.2.2.2 m hm)).2⟩
  · obtain ⟨b1, b2⟩ := (hc c hx).2.2.2.2.2.1 f hff
    exact ⟨Nat.le_trans b1 hm, Nat.le_trans b2 hm⟩
abbrev seatA : List Cls := archS 1 0 0 0 [] []
def bentC : Cls := seatA.getD 4 noC
def bentA : List Cls := seatA.set 4 (moreC bentC runM)
def objA : List Cls := [⟨⟨#[79, 98, 106, 101, 99, 116]⟩, es, [], 0, [], []⟩]
theorem seat_ck : hkB seatA = true := by kernel_rfl
theorem bent_ck : hkB bentA = true := by kernel_rfl
theorem obj_ck : hkB objA = true := by kernel_rfl
theorem seat_sh : checkK seatA = (0, 0) := by kernel_rfl
theorem bent_sh : checkK bentA = (4, 25) := by kernel_rfl
theorem obj_sh : checkK objA = (0, 23) := by kernel_rfl
theorem seat_at : seatA[4]? = some bentC := by kernel_rfl
theorem seat_ms : missK (keepL seatA) ⟨#[66, 97, 115, 101]⟩ = [⟨#[114, 117, 110, 40, 41, 73]⟩] := by kernel_rfl
theorem bent_ms : bentC.methods.length ≤ 1000 := by
  have h : decide (bentC.methods.length ≤ 1000) = true := by kernel_rfl
  simpa using h
theorem seat_ln : 4 < seatA.length ∧ seatA.length ≤ 1000 := by
  have h : decide (4 < seatA.length ∧ seatA.length ≤ 1000) = true := by kernel_rfl
  simpa using h
end Go.Proofs.YtlmpnmnfloeoiaaGreat.R
namespace Go.Proofs.YtlmpnmnfloeoiaaGreat.R
open Go.RowKit Go.Proofs.YtlmpnmnfloeoiaaGreat.D Go.Proofs.YtlmpnmnfloeoiaaGreat.O Go.Proofs.YtlmpnmnfloeoiaaGreat.A
theorem one_miss {R : List ByteArray} {x : ByteArray} {M : List ByteArray} (hs : S.Srt S.ltS R) (hm : ∀ y, y ∈ R ↔ y ∈ M) (he : M = [x]) : R = [x] :=
  S.srt_eq S.toS hs (List.pairwise_singleton _ _) (fun y => by rw [hm y, he])
set_option maxHeartbeats 8000000 in
set_option maxRecDepth 100000 in
theorem known_10 (w : World) : Calls Tryz.prog 7 #[] w fun e w' => e = .returned (.bool true) ∧ Below w.heap.size w w' := by
  go_enter Tryz.func7, Tryz.ntmps7
  try simp only [List.append_eq, List.cons_append, List.nil_append]
  go_wp2_with fail
  refine (archive_0 1 0 0 0 w (by decide) (by decide) (by decide) (by decide)).mono ?_
  rintro e w1 ⟨p1, n1, c1, rfl, hr1, hb1⟩
  obtain ⟨_, _, e1, -⟩ := hr1.len
  simp only [Value.slice.injEq] at e1
  obtain ⟨rfl, rfl, rfl⟩ := e1
  have HCK := Lib.hid (ckA_of seat_ck)
  have HBK := Lib.hid (ckA_of bent_ck)
  have HOK := Lib.hid (ckA_of obj_ck)
  have HSH := Lib.hid seat_sh
  have HBH := Lib.hid bent_sh
  have HOH := Lib.hid obj_sh
  have HAT := Lib.hid seat_at
  have HMS := Lib.hid seat_ms
  have HLN := Lib.hid seat_ln
  have HBL : Hid (bentA.length = seatA.length) := Lib.hid (by unfold bentA; rw [List.length_set])
  have HBM := Lib.hid bent_ms
  have hbe : seatA.set 4 (moreC bentC runM) = bentA := rfl
  have HBE := Lib.hid hbe
  clear hbe
  have HR1 := Lib.hid hr1
  have HB1 := Lib.hid hb1
  clear hr1 hb1
  obtain ⟨A, hA⟩ : ∃ x, archS 1 0 0 0 [] [] = x := ⟨_, rfl⟩
  obtain ⟨Z, hZ⟩ : ∃ x, bentA = x := ⟨_, rfl⟩
  obtain ⟨O, hO⟩ : ∃ x, objA = x := ⟨_, rfl⟩
  have HOE := Lib.hid hO
  have hAs : seatA = A := hA
  rw [hA] at HR1 ⊢
  rw [hAs] at HCK HSH HAT HMS HLN HBL HBE
  clear hAs
  rw [hZ] at HBK HBH HBL HBE
  rw [hO] at HOK HOH
  clear hA hZ hO
  obtain ⟨w2, hw2⟩ : ∃ x, x = w1.alloc (.cells #[.slice p1 A.length c1] 30) := ⟨_, rfl⟩
  have HX2 : Hid (w2.heap[w1.heap.size]? = some (.cells #[.slice p1 A.length c1] 30 (0, 0))) := Lib.hid (by rw [hw2]; exact heap_alloc_new _ _)
  have hb12 : Below w1.heap.size w1 w2 := by rw [hw2]; exact below_alR _ _
  have HR2 := Lib.hid (HR1.out.any cP.grow hb12)
  have HB2 := Lib.hid (HB1.out.trans (hb12.mono HB1.out.size))
  go_upto_region 2 with fail
  rw [← hw2]
  clear hw2 hb12 HR1 HB1
  obtain ⟨b1, hb1⟩ : ∃ z, w1.heap.size = z := ⟨_, rfl⟩
  rw [hb1] at HX2 ⊢
  clear hb1
  obtain ⟨x_l, x_c, -⟩ := boxN HX2.out
  have x_0 := x_c 0 _ rfl
  simp only [Nat.zero_add] at x_0
  clear x_c
  go_wp2_with fail
  refine (check_h A p1 c1 _ w2 HR2.out HCK.out).mono ?_
  rw [HSH.out]
  rintro e w3 ⟨rfl, hb3⟩
  have HX3 := Lib.hid ((hb3.block _ x_l).trans HX2.out)
  have HR3 := Lib.hid (HR2.out.any cP.grow hb3)
  have HB3 := Lib.hid (HB2.out.trans (hb3.mono HB2.out.size))
  clear hb3 x_l x_0 HR2 HX2 HB2
  obtain ⟨x_l, x_c, -⟩ := boxN HX3.out
  have x_0 := x_c 0 _ rfl
  simp only [Nat.zero_add] at x_0
  clear x_c
  go_wp2_with fail
  refine (Bent_h A p1 c1 _ w3 HR3.out HLN.out.1 (Nat.le_trans HLN.out.2 (by decide)) HCK.out.2.1 bentC HAT.out HBM.out).mono ?_
  rw [HBE.out]
  rintro e w4 ⟨p4, c4, rfl, hr4, hb4⟩
  obtain ⟨w5, hw5⟩ : ∃ x, x = w4.alloc (.cells #[.slice p4 A.length c4] 30) := ⟨_, rfl⟩
  have hb35 : Below w3.heap.size w3 w5 := by rw [hw5]; exact hb4.trans ((below_alR _ _).mono hb4.size)
  have HX5 := Lib.hid ((hb35.block _ x_l).trans HX3.out)
  have HR5 := Lib.hid (HR3.out.any cP.grow hb35)
  have HB5 := Lib.hid (HB3.out.trans (hb35.mono HB3.out.size))
  have HY5 : Hid (w5.heap[w4.heap.size]? = some (.cells #[.slice p4 A.length c4] 30 (0, 0))) := Lib.hid (by rw [hw5]; exact heap_alloc_new _ _)
  have HZ5 : Hid (RdX 6 cP anyB w5 (.slice p4 Z.length c4) Z) := Lib.hid (by rw [HBL.out, hw5]; exact hr4.any cP.grow (below_alR _ _))
  clear HX3 HR3 HB3 hb4 hr4 hb35
  go_upto_region 4 with fail
  rw [← hw5]
  clear hw5 x_l x_0
  obtain ⟨b4, hb4⟩ : ∃ z, w4.heap.size = z := ⟨_, rfl⟩
  rw [hb4] at HY5 ⊢
  clear hb4
  rw [← HBL.out] at HY5
  obtain ⟨y_l, y_c, -⟩ := boxN HY5.out
  have y_0 := y_c 0 _ rfl
  simp only [Nat.zero_add] at y_0
  clear y_c
  go_wp2_with fail
  refine (check_h Z p4 c4 _ w5 HZ5.out HBK.out).mono ?_
  rw [HBH.out]
  rintro e w6 ⟨rfl, hb6⟩
  have HX6 := Lib.hid ((hb6.block _ (Array.getElem?_eq_some_iff.1 HX5.out).1).trans HX5.out)
  have HR6 := Lib.hid (HR5.out.any cP.grow hb6)
  have HB6 := Lib.hid (HB5.out.trans (hb6.mono HB5.out.size))
  clear hb6 y_l y_0 HX5 HR5 HB5 HY5 HZ5
  obtain ⟨x_l, x_c, -⟩ := boxN HX6.out
  have x_0 := x_c 0 _ rfl
  simp only [Nat.zero_add] at x_0
  clear x_c
  go_wp2_with fail
  refine (New_t A p1 c1 _ w6 HR6.out HCK.out.1 HCK.out.2.1).mono ?_
  rintro e w7 ⟨tb, mb, vs, rfl, ht7, hb7⟩
  have HT := Lib.hid ht7
  have HB7 := Lib.hid (HB6.out.trans (hb7.mono HB6.out.size))
  obtain ⟨ok, hok⟩ : ∃ x, (fun b => w6.heap.size ≤ b) = x := ⟨_, rfl⟩
  rw [hok] at HT
  clear hok ht7 hb7 HX6 HR6 HB6 x_l x_0
  go_wp2_with fail
  refine (Missing_h ok tb mb vs (keepL A) _ w7 HT.out (sz_small (by decide)) HCK.out.2.2.1 (by rw [HMS.out]; exact List.nodup_cons.2 ⟨by simp, List.nodup_nil⟩)).mono ?_
  rintro e w8 ⟨v8, R, rfl, ho8, hs8, hm8, hb8⟩
  have hR8 := one_miss hs8 hm8 HMS.out
  subst hR8
  have HB8 := Lib.hid (HB7.out.trans (hb8.mono HB7.out.size))
  have HO8 := Lib.hid ho8
  obtain ⟨g, gc, cur, hv8, -, hgl, -⟩ : ∃ g cap cur, v8 = .slice (some ⟨g, 0, none⟩) 1 cap ∧ w7.heap.size ≤ g ∧ g < w8.heap.size ∧ True := by
    rcases ho8.cells with ⟨-, e⟩ | ⟨g, cap, cur, e, h1, h2, -⟩
    · cases e
    · exact ⟨g, cap, cur, e, h1, h2, trivial⟩
  subst hv8
  clear ho8 hs8 hm8 hb8 HB7
  have hob : RdX 6 cP anyB (w8.alloc (.cells #[.string ⟨#[79, 98, 106, 101, 99, 116]⟩, .string ⟨#[]⟩, .slice none 0 0, .int .i64 0, .slice none 0 0, .slice none 0 0] 27)) (.slice (some ⟨w8.heap.size, 0, none⟩) 1 1) O := by
    rw [← HOE.out]
    exact rd_block (P := cP) [[.string ⟨#[79, 98, 106, 101, 99, 116]⟩, .string ⟨#[]⟩, .slice none 0 0, .int .i64 0, .slice none 0 0, .slice none 0 0]] objA _ (heap_alloc_new _ _) rfl trivial ⟨⟨⟨_, _, _, rfl, RdX.nil _ _ _ _, RdX.nil _ _ _ _, RdX.nil _ _ _ _⟩, rfl⟩, trivial⟩ 1 1 rfl (Nat.le_refl _)
  have HOB := Lib.hid hob
  have HOL : Hid (O.length = 1) := Lib.hid (by rw [← HOE.out]; rfl)
  clear hob
  obtain ⟨w9, hw9⟩ : ∃ x, x = w8.alloc (.cells #[.string ⟨#[79, 98, 106, 101, 99, 116]⟩, .string ⟨#[]⟩, .slice none 0 0, .int .i64 0, .slice none 0 0, .slice none 0 0] 27) := ⟨_, rfl⟩
  have hb9 : Below w8.heap.size w8 w9 := by rw [hw9]; exact below_alR _ _
  rw [← hw9] at HOB
  go_wp2_with fail
  rw [← hw9]
  clear hw9
  have hck := check_h O (some ⟨w8.heap.size, 0, none⟩) 1 anyB w9 (by rw [HOL.out]; exact HOB.out) HOK.out
  rw [HOL.out, HOH.out] at hck
  refine hck.mono ?_
  rintro e w10 ⟨rfl, hb10⟩
  have hb810 := hb9.trans (hb10.mono hb9.size)
  have HO10 := Lib.hid (HO8.out.kpt (S.Kpt.of_below (S := []) hb810) (by simp))
  have HB10 := Lib.hid (HB8.out.trans (hb810.mono HB8.out.size))
  have hgc : w10.cell? ⟨g, 0, none⟩ = some (.string ⟨#[114, 117, 110, 40, 41, 73]⟩) := by
    rcases HO10.out.cells with ⟨e, -⟩ | ⟨g', cap, cur, e, -, -, -, -, -, h, -⟩
    · cases e
    · cases e
      exact h 0 _ rfl
  clear hck hb9 hb10 hb810 HOB HO8 HB8
  go_wp2_with fail
  refine bodyPost_ret (v := .bool true) (by simp [*, results, Tryz.results7, go_sem]) rfl ?_
  exact ⟨rfl, HB10.out⟩
end Go.Proofs.YtlmpnmnfloeoiaaGreat.R
namespace Go.Proofs.YtlmpnmnfloeoiaaGreat.R
open Go.RowKit Go.Proofs.YtlmpnmnfloeoiaaGreat.D Go.Proofs.YtlmpnmnfloeoiaaGreat.O Go.Proofs.YtlmpnmnfloeoiaaGreat.A
def mthV (n : ByteArray) (st ab : Bool) (k : Int) : Mth := ⟨n, [], (k, ⟨#[]⟩), st, ab, 0, [], []⟩
theorem method_l (n : ByteArray) (st ab : Bool) (k : Int) (w : World) : Calls Tryz.prog 9 #[.string n, .bool st, .bool ab, .int .i64 k] w fun e w' => e = .returned (.agg #[.string n, .slice none 0 0, .int .i64 k, .string ⟨#[]⟩, .bool st, .bool ab, .int .i64 0, .slice none 0 0, .slice none 0 0]) ∧ Below w.heap.size w w' := by
  go_enter Tryz.func9, Tryz.ntmps9
  go_wp2_with fail
  refine bodyPost_ret (v := .agg #[.string n, .slice none 0 0, .int .i64 k, .string ⟨#[]⟩, .bool st, .bool ab, .int .i64 0, .slice none 0 0, .slice none 0 0]) (by simp [*, results, Tryz.results9, go_sem]) rfl ?_
  exact ⟨rfl, below_alR _ _⟩
end Go.Proofs.YtlmpnmnfloeoiaaGreat.R
namespace Go.Proofs.YtlmpnmnfloeoiaaGreat.R
open Go.RowKit Go.Proofs.YtlmpnmnfloeoiaaGreat.D Go.Proofs.YtlmpnmnfloeoiaaGreat.O Go.Proofs.YtlmpnmnfloeoiaaGreat.A
def nmK (k : Nat) : ByteArray := [⟨#[109]⟩, ⟨#[110]⟩, ⟨#[111]⟩].getD k es
def nmV3 (k : Nat) : ByteArray := [⟨#[109, 40, 41, 86]⟩, ⟨#[110, 40, 41, 86]⟩, ⟨#[111, 40, 41, 86]⟩].getD k es
def l0M (k x : Nat) : List Mth := if 1 < x then [mthV (nmK k) false (x == 2) 5] else []
def l1M (k y : Nat) : List Mth := if y = 1 then [mthV (nmK k) false false 5] else []
def l2M (k z : Nat) : List Mth := if z = 1 then [mthV (nmK k) false true 5] else []
def wnM (k x y z : Nat) : List ByteArray := if (x = 2 ∨ z = 1) ∧ y = 0 ∧ x ≠ 3 then [nmV3 k] else []
def miA (kq : Int) (a b c : List Mth) : List Cls :=
  [⟨⟨#[80]⟩, ⟨#[79, 98, 106, 101, 99, 116]⟩, [], 2, [], a⟩, ⟨⟨#[81]⟩, ⟨#[80]⟩, [⟨#[73]⟩], kq, [], b⟩, ⟨⟨#[73]⟩, ⟨#[79, 98, 106, 101, 99, 116]⟩, [], 4, [], c⟩]
def sortB : List ByteArray → Bool
  | [] => true
  | a :: l => l.all (fun b => S.ltS a b) && sortB l
def miB (kq : Int) (x0 x1 x2 y0 y1 y2 z0 z1 z2 : Nat) : Bool :=
  let A := miA kq (l0M 0 x0 ++ l0M 1 x1 ++ l0M 2 x2) (l1M 0 y0 ++ l1M 1 y1 ++ l1M 2 y2) (l2M 0 z0 ++ l2M 1 z1 ++ l2M 2 z2)
  let W := wnM 0 x0 y0 z0 ++ wnM 1 x1 y1 z1 ++ wnM 2 x2 y2 z2
  let M := missK (keepL A) ⟨#[81]⟩
  hkB A && decide (checkK A = if !W.isEmpty && kq != 2 then (1, 27) else (0, 0)) && sortB W && W.all (fun x => decide (x ∈ M)) && M.all (fun x => decide (x ∈ W)) && decide M.Nodup
def xv (x : Nat) : Nat := if x = 0 then 0 else x + 1
def xd (x : Nat) : Nat := if x ≤ 1 then 0 else x - 1
theorem l0_xv (k : Nat) {x : Nat} (h : x < 4) : l0M k x = l0M k (xv (xd x)) := by
  have h4 : x = 0 ∨ x = 1 ∨ x = 2 ∨ x = 3 := by omega
  rcases h4 with rfl | rfl | rfl | rfl <;> rfl
theorem wn_xv (k y z : Nat) {x : Nat} (h : x < 4) : wnM k x y z = wnM k (xv (xd x)) y z := by
  have h4 : x = 0 ∨ x = 1 ∨ x = 2 ∨ x = 3 := by omega
  rcases h4 with rfl | rfl | rfl | rfl
  · rfl
  · unfold wnM xv xd; simp
  · rfl
  · rfl
theorem xd_lt {x : Nat} (h : x < 4) : xd x < 3 := by unfold xd; split <;> omega
end Go.Proofs.YtlmpnmnfloeoiaaGreat.R
