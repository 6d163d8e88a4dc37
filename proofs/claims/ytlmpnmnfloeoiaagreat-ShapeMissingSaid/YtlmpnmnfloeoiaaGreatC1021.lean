/- Texts that the proof is made of, joined. No condition. -/
import Derived.Test.YtlmpnmnfloeoiaaGreatC1017
import Derived.Test.YtlmpnmnfloeoiaaGreatC1020
import Derived.Test.YtlmpnmnfloeoiaaGreatC108
set_option linter.unusedVariables false
set_option linter.unusedSimpArgs false
set_option maxRecDepth 100000
set_option maxHeartbeats 16000000
namespace Go.Proofs.YtlmpnmnfloeoiaaGreat.R
open Go.RowKit Go.Proofs.YtlmpnmnfloeoiaaGreat.D Go.Proofs.YtlmpnmnfloeoiaaGreat.O Go.Proofs.YtlmpnmnfloeoiaaGreat.A
theorem rd_block {α : Type} {sz : Nat} {P : Pv α} {ok : Nat → Prop} {w : World} {b : Nat} {T : TypeId} (ls : List (List Value)) (xs : List α) (cs : Array Value) (h : w.heap[b]? = some (.cells cs T (0, 0))) (hcs : cs.toList = ls.flatten) (hb : ok b)
    (ha : All2 (fun l x => P ok w l x ∧ l.length = sz) ls xs) (n c : Nat) (hn : n = xs.length) (hc : n ≤ c) : RdX sz P ok w (.slice (some ⟨b, 0, none⟩) n c) xs := by
  subst hn
  refine ⟨_, c, rfl, hc, (fun e => by cases e), .inr ⟨b, 0, rfl, hb, (Array.getElem?_eq_some_iff.1 h).1, fun i x hx => ?_⟩⟩
  have key : ∀ (ls : List (List Value)) (xs : List α) (i : Nat), All2 (fun l x => P ok w l x ∧ l.length = sz) ls xs → xs[i]? = some x → ∃ l, P ok w l x ∧ ∀ j u, l[j]? = some u → ls.flatten[i * sz + j]? = some u := by
    intro ls
    induction ls with
    | nil => intro xs i h hi; cases xs with
      | nil => simp at hi
      | cons y ys => cases h
    | cons l ls ih =>
      intro xs i h hi
      cases xs with
      | nil => cases h
      | cons y ys =>
        obtain ⟨⟨h1, h2⟩, h3⟩ := h
        cases i with
        | zero =>
          simp only [List.getElem?_cons_zero, Option.some.injEq] at hi
          subst hi
          refine ⟨l, h1, fun j u hu => ?_⟩
          rw [List.flatten_cons, Nat.zero_mul, Nat.zero_add, List.getElem?_append_left (List.getElem?_eq_some_iff.1 hu).1]
          exact hu
        | succ i =>
          obtain ⟨l', g1, g2⟩ := ih ys i h3 (by simpa using hi)
          refine ⟨l', g1, fun j u hu => ?_⟩
          rw [List.flatten_cons, List.getElem?_append_right (by rw [h2, Nat.succ_mul]; omega), h2, Nat.succ_mul, show i * sz + sz + j - sz = i * sz + j by omega]
          exact g2 j u hu
  obtain ⟨l, g1, g2⟩ := key ls xs i ha hx
  refine ⟨l, g1, fun j u hu => ?_⟩
  have := g2 j u hu
  rw [← hcs, Array.getElem?_toList] at this
  simp only [World.cell?, h, Nat.zero_add]
  exact this
end Go.Proofs.YtlmpnmnfloeoiaaGreat.R
namespace Go.Proofs.YtlmpnmnfloeoiaaGreat.R
open Go.RowKit Go.Proofs.YtlmpnmnfloeoiaaGreat.D Go.Proofs.YtlmpnmnfloeoiaaGreat.O Go.Proofs.YtlmpnmnfloeoiaaGreat.A
def okV (B a : Nat) (va vw : Value) : Nat → Prop := fun b => B ≤ b ∧ b ≠ a ∧ va.ownBlock ≠ some b ∧ vw.ownBlock ≠ some b
def ArB (w : World) (B a : Nat) (va vw : Value) (rs : List (Raw 6)) (K : List Cls) (L : List ByteArray) : Prop :=
  w.heap[a]? = some (.cells #[va] 30 (0, 0)) ∧ B ≤ a ∧ OwnX 6 27 (sP rawC) w B va rs ∧ All2 (fun r c => cP (okV B a va vw) w (rawC r) c) rs K ∧ va.ownBlock ≠ some a ∧ S.OwnC S.cS 9 w B vw L ∧ vw.ownBlock ≠ some a ∧ ∀ g, va.ownBlock = some g → vw.ownBlock ≠ some g
theorem ArB.lt {w : World} {B a : Nat} {va vw : Value} {rs : List (Raw 6)} {K : List Cls} {L : List ByteArray} (h : ArB w B a va vw rs K L) : a < w.heap.size := (Array.getElem?_eq_some_iff.1 h.1).1
theorem ArB.cells {w : World} {B a : Nat} {va vw : Value} {rs : List (Raw 6)} {K : List Cls} {L : List ByteArray} (h : ArB w B a va vw rs K L) : a < w.heap.size ∧ w.cell? ⟨a, 0, none⟩ = some va ∧ w.frozen? ⟨a, 0, none⟩ = false := by
  have h3 := h.1
  refine ⟨h.lt, ?_, ?_⟩ <;> simp [World.cell?, World.frozen?, h3]
theorem ArB.below {w w' : World} {B a : Nat} {va vw : Value} {rs : List (Raw 6)} {K : List Cls} {L : List ByteArray} (h : ArB w B a va vw rs K L) (hb : Below w.heap.size w w') : ArB w' B a va vw rs K L := by
  have hlt := h.lt
  obtain ⟨h1, h2, h3, h4, h5, h6, h7, h8⟩ := h
  exact ⟨(hb.block _ hlt).trans h1, h2, h3.kptS (.of_below hb : Kpt [] w w') (fun _ _ => by simp), h4.imp (fun r c h => cP.grow _ _ _ _ _ _ h (fun _ h _ => h) (.of_below hb) hb.size), h5, h6.kpt (S.Kpt.of_below (S := []) hb) (by simp), h7, h8⟩
theorem ArB.app {w w1 : World} {B a : Nat} {va vw v' : Value} {rs : List (Raw 6)} {K : List Cls} {L : List ByteArray} {rX : Raw 6} {c : Cls} (h : ArB w B a va vw rs K L) (hB : B ≤ w.heap.size) (hm : cP (okV B a va vw) w (rawC rX) c) (ho : OwnX 6 27 (sP rawC) w1 B v' (rs ++ [rX])) (hg : w.grownBy w1 va.ownBlock) (hl : v'.ownBlock = va.ownBlock ∨ v'.ownBlock = some w.heap.size) :
    a < w1.heap.size ∧ w1.cell? ⟨a, 0, none⟩ = some va ∧ w1.frozen? ⟨a, 0, none⟩ = false ∧ ArB (w1.setCell ⟨a, 0, none⟩ v') B a v' vw (rs ++ [rX]) (K ++ [c]) L ∧ Below B w (w1.setCell ⟨a, 0, none⟩ v') := by
  have hlt := h.lt
  obtain ⟨h1, h2, h3, h4, h5, h6, h7, h8⟩ := h
  have hw1 : w1.heap[a]? = some (.cells #[va] 30 (0, 0)) := by rw [hg.block a hlt (fun e => h5 e.symm)]; exact h1
  have k1 : Kpt va.ownBlock.toList w w1 := .of_grown hg (fun g e => .inl (by rw [e]; simp))
  have k2 : Kpt [a] w1 (w1.setCell ⟨a, 0, none⟩ v') := Kpt.set _ _ _ _ _ (by simp)
  have hne : ∀ {x : Nat}, x < w.heap.size → va.ownBlock ≠ some x → v'.ownBlock ≠ some x := fun {x} hx hv => by
    rcases hl with e | e
    · rw [e]; exact hv
    · rw [e]; simp only [ne_eq, Option.some.injEq]; omega
  have kk : Keeps (okV B a va vw) w (w1.setCell ⟨a, 0, none⟩ v') := fun b hb hlb => by
    rw [k2.2 b (Nat.lt_of_lt_of_le hlb hg.size) (by simpa using hb.2.1), k1.2 b hlb (by simpa using fun e => hb.2.2.1 e)]
  have hoo : ∀ b, okV B a va vw b → b < w.heap.size → okV B a v' vw b := fun b hb hlb => ⟨hb.1, hb.2.1, hne hlb hb.2.2.1, hb.2.2.2⟩
  have hsz : w.heap.size ≤ (w1.setCell ⟨a, 0, none⟩ v').heap.size := Nat.le_trans hg.size k2.size
  have hv8 : ∀ g, v'.ownBlock = some g → vw.ownBlock ≠ some g := fun g e e2 => by
    rcases hl with e' | e'
    · exact h8 g (by rw [← e']; exact e) e2
    · rw [e'] at e
      cases e
      exact Nat.lt_irrefl _ (h6.lt _ e2).2
  refine ⟨Nat.lt_of_lt_of_le hlt hg.size, by simp [World.cell?, hw1], by simp [World.frozen?, hw1], ⟨?_, h2, ho.kptS k2 (fun g e => by simp; rintro rfl; exact hne hlt h5 e), ?_, hne hlt h5, (h6.kpt k1 (fun g e hm => h8 g (by simpa using hm) e)).kpt k2 (fun g e => by simp; rintro rfl; exact h7 e), h7, hv8⟩, ?_⟩
  · rw [heap_setCell_same w1 a 0 _ _ _ hw1]; rfl
  · exact (h4.imp (fun r x h => cP.grow _ _ _ _ _ _ h hoo kk hsz)).app ⟨cP.grow _ _ _ _ _ _ hm hoo kk hsz, trivial⟩
  · have b1 : Below B w w1 := ⟨hg.os, hg.tape, hg.output, hg.size, fun k hk => hg.block k (by omega) (fun e => by have := (h3.lt k e.symm).1; omega)⟩
    exact b1.trans (k2.below (fun x hx => by simp at hx; omega) (Nat.le_trans hB hg.size))
theorem hp1 (w : World) (cs : Array Value) (T : TypeId) (X Y : Obj) : (((w.alloc (.cells cs T)).alloc X).alloc Y).drew.heap[w.heap.size]? = some (.cells cs T (0, 0)) := by
  show (((w.alloc (.cells cs T)).alloc X).alloc Y).heap[w.heap.size]? = _
  exact ((below_alR _ Y).block _ (by simp <;> omega)).trans (((below_alR _ X).block _ (by simp)).trans (heap_alloc_new w (.cells cs T)))
theorem hp2 (w : World) (cs : Array Value) (T : TypeId) (X Y : Obj) : (((w.alloc X).alloc (.cells cs T)).alloc Y).drew.heap[w.heap.size + 1]? = some (.cells cs T (0, 0)) := by
  show (((w.alloc X).alloc (.cells cs T)).alloc Y).heap[w.heap.size + 1]? = _
  have h := heap_alloc_new (w.alloc X) (.cells cs T)
  rw [World.size_alloc] at h
  exact ((below_alR _ Y).block _ (by simp)).trans h
theorem hp3 (w : World) (cs : Array Value) (T : TypeId) (X Y : Obj) : (((w.alloc X).alloc Y).alloc (.cells cs T)).drew.heap[w.heap.size + 1 + 1]? = some (.cells cs T (0, 0)) := by
  show (((w.alloc X).alloc Y).alloc (.cells cs T)).heap[w.heap.size + 1 + 1]? = _
  have h := heap_alloc_new ((w.alloc X).alloc Y) (.cells cs T)
  rw [World.size_alloc, World.size_alloc] at h
  exact h
end Go.Proofs.YtlmpnmnfloeoiaaGreat.R
namespace Go.Proofs.YtlmpnmnfloeoiaaGreat.R
open Go.RowKit Go.Proofs.YtlmpnmnfloeoiaaGreat.D Go.Proofs.YtlmpnmnfloeoiaaGreat.O Go.Proofs.YtlmpnmnfloeoiaaGreat.A
def okN (B : Nat) (vm : Value) (P : Prop) : Nat → Prop := fun b => (P → B < b) ∧ b ≠ B ∧ vm.ownBlock ≠ some b
theorem okN.keeps {w w' : World} {g B : Nat} {P : Prop} {vm : Value} (e : vm.ownBlock = some g) (k : Kpt [g] w w') : Keeps (okN B vm P) w w' := fun b hb hlb => k.2 b hlb (by simp; intro e'; exact hb.2.2 (by rw [e', e]))
theorem okN.step {α : Type} {sz : Nat} {c : α → List Value} {w w' : World} {g B : Nat} {P P' : Prop} {vm v : Value} {xs : List α} (h : RdX sz (sP c) (okN B vm P) w v xs) (hP : P' → P) (e : vm.ownBlock = some g) (k : Kpt [g] w w') : RdX sz (sP c) (okN B vm P') w' v xs :=
  h.step (sP.grow _) (fun b hb _ => ⟨fun p => hb.1 (hP p), hb.2⟩) (okN.keeps e k) k.size
def CpM (w : World) (B : Nat) (vm : Value) (rs : List (Raw 9)) (ms : List Mth) (t : Nat) : Prop :=
  OwnX 9 42 (sP rawC) w (B + 1) vm rs ∧ rs.length = ms.length ∧ ∀ j m, ms[j]? = some m → ∃ r vp vc vh, rs[j]? = some r ∧ rawC r = [.string m.name, vp, .int .i64 m.ret.1, .string m.ret.2, .bool m.st, .bool m.ab, .int .i64 m.locals, vc, vh] ∧
    RdX 2 (sP tyC) (okN B vm (3 * j < t)) w vp m.params ∧ RdX 7 (sP insC) (okN B vm (3 * j + 1 < t)) w vc m.code ∧ RdX 4 (sP hndC) (okN B vm (3 * j + 2 < t)) w vh m.hs
def CpC (w : World) (B : Nat) (vi vf vm : Value) (rs : List (Raw 9)) (c : Cls) (t : Nat) : Prop :=
  w.heap[B]? = some (.cells #[.string c.name, .string c.super, vi, .int .i64 c.kind, vf, vm] 27 (0, 0)) ∧ RdX 1 (sP strC) (okN B vm True) w vi c.ifaces ∧ RdX 4 (sP fldC) (okN B vm True) w vf c.fields ∧ CpM w B vm rs c.methods t ∧ vm.ownBlock ≠ some B
theorem CpC.lt {w : World} {B : Nat} {vi vf vm : Value} {rs : List (Raw 9)} {c : Cls} {t : Nat} (h : CpC w B vi vf vm rs c t) : B < w.heap.size := (Array.getElem?_eq_some_iff.1 h.1).1
theorem CpC.held {w : World} {B : Nat} {vi vf vm : Value} {rs : List (Raw 9)} {c : Cls} {t : Nat} (h : CpC w B vi vf vm rs c t) : w.cell? ⟨B, 5, none⟩ = some vm := by simp [World.cell?, h.1]
theorem CpC.below {w w' : World} {B : Nat} {vi vf vm : Value} {rs : List (Raw 9)} {c : Cls} {t : Nat} (h : CpC w B vi vf vm rs c t) (hb : Below w.heap.size w w') : CpC w' B vi vf vm rs c t := by
  have hlt := h.lt
  obtain ⟨h1, h2, h3, ⟨h4, h5, h6⟩, h7⟩ := h
  refine ⟨(hb.block _ hlt).trans h1, h2.any (sP.grow _) hb, h3.any (sP.grow _) hb, ⟨h4.kptS (.of_below hb : Kpt [] w w') (fun _ _ => by simp), h5, fun j m hm => ?_⟩, h7⟩
  obtain ⟨r, vp, vc, vh, e1, e2, p1, p2, p3⟩ := h6 j m hm
  exact ⟨r, vp, vc, vh, e1, e2, p1.any (sP.grow _) hb, p2.any (sP.grow _) hb, p3.any (sP.grow _) hb⟩
theorem CpM.raw {w : World} {B : Nat} {vm : Value} {rs : List (Raw 9)} {ms : List Mth} {t j : Nat} {m : Mth} (h : CpM w B vm rs ms t) (hm : ms[j]? = some m) (q : Nat) (hq : q < 9) (u : Value) (hu : u.oneCell' = true) {r : Raw 9} (hr : rs[j]? = some r) :
    ∃ g cap, vm = .slice (some ⟨g, 0, none⟩) ms.length cap ∧ B + 1 ≤ g ∧ g < w.heap.size ∧ (∀ k, w.frozen? ⟨g, k, none⟩ = false) ∧ (∀ k u', (rawC r)[k]? = some u' → w.cell? ⟨g, j * 9 + k, none⟩ = some u') ∧ ∃ y : Raw 9, rawC y = (rawC r).set q u ∧ OwnX 9 42 (sP rawC) (w.setCell ⟨g, j * 9 + q, none⟩ u) (B + 1) vm (rs.set j y) := by
  obtain ⟨y, hy⟩ : ∃ y : Raw 9, rawC y = (rawC r).set q u := ⟨⟨(rawC r).set q u, by rw [List.length_set]; exact r.2.1, fun v hv => by
    rcases List.mem_or_eq_of_mem_set hv with h | h
    · exact r.2.2 v h
    · rw [h]; exact hu⟩, rfl⟩
  obtain ⟨g, cap, e, hc, h1, h2, h3, h4, h5⟩ := h.1.put1 (u := u) hr hq hy
  rw [h.2.1] at e
  exact ⟨g, cap, e, h1, h2, h3, h4, y, hy, h5⟩
theorem all2_of {α β : Type} {R : α → β → Prop} : ∀ {xs : List α} {ys : List β}, xs.length = ys.length → (∀ (j : Nat) y, ys[j]? = some y → ∃ x, xs[j]? = some x ∧ R x y) → All2 R xs ys
  | [], [], _, _ => trivial
  | [], _ :: _, h, _ => by cases h
  | _ :: _, [], h, _ => by cases h
  | x :: xs, y :: ys, h, f => ⟨by obtain ⟨a, e, p⟩ := f 0 y rfl; cases e; exact p, all2_of (by simpa using h) (fun j z hz => f (j + 1) z hz)⟩
theorem CpC.get0 {w : World} {B j : Nat} {vi vf vm : Value} {rs : List (Raw 9)} {c : Cls} {m : Mth} {t : Nat} (h : CpC w B vi vf vm rs c t) (hm : c.methods[j]? = some m) :
    ∃ g cap pp cp ok, vm = .slice (some ⟨g, 0, none⟩) c.methods.length cap ∧ B + 1 ≤ g ∧ g < w.heap.size ∧ w.cell? ⟨g, j * 9 + 1, none⟩ = some (.slice pp m.params.length cp) ∧ RdX 2 (sP tyC) ok w (.slice pp m.params.length cp) m.params := by
  obtain ⟨r, vp, vc, vh, e1, e2, p0, p1, p2⟩ := h.2.2.2.1.2.2 j m hm
  obtain ⟨g, cap, e, hg, hl, -, hc, -⟩ := h.2.2.2.1.raw hm 1 (by decide) (.int .i64 0) rfl e1
  obtain ⟨pp, cp, rfl, -⟩ := p0.len
  exact ⟨g, cap, pp, cp, _, e, hg, hl, hc 1 _ (by rw [e2]; rfl), p0⟩
theorem CpC.put0 {w : World} {B j : Nat} {vi vf vm u : Value} {rs : List (Raw 9)} {c : Cls} {m : Mth} (h : CpC w B vi vf vm rs c (3 * j)) (hm : c.methods[j]? = some m) (ho : u.oneCell' = true) (hu : RdX 2 (sP tyC) (okN B vm True) w u m.params) {g n cap : Nat} (hv : vm = .slice (some ⟨g, 0, none⟩) n cap) :
    g < w.heap.size ∧ w.frozen? ⟨g, j * 9 + 1, none⟩ = false ∧ (∃ o, w.cell? ⟨g, j * 9 + 1, none⟩ = some o) ∧ ∃ rs', CpC (w.setCell ⟨g, j * 9 + 1, none⟩ u) B vi vf vm rs' c (3 * j + 1) ∧ Below (B + 1) w (w.setCell ⟨g, j * 9 + 1, none⟩ u) := by
  have hlt := h.lt
  obtain ⟨h1, h2, h3, h4, h7⟩ := h
  obtain ⟨r, vp, vc, vh, e1, e2, p0, p1, p2⟩ := h4.2.2 j m hm
  obtain ⟨g', cap', e, hg, hl, hf, hc, y, hy, hn⟩ := h4.raw hm 1 (by decide) u ho e1
  have ev : vm.ownBlock = some g := by rw [hv]; rfl
  rw [hv] at e
  simp only [Value.slice.injEq, Option.some.injEq, Addr.mk.injEq, and_true] at e
  obtain ⟨e, -, -⟩ := e
  subst e
  have k2 : Kpt [g] w (w.setCell ⟨g, j * 9 + 1, none⟩ u) := Kpt.set _ _ _ _ _ (by simp)
  refine ⟨hl, hf _, ⟨_, hc 1 _ (by rw [e2]; rfl)⟩, _, ⟨(k2.2 B hlt (by simp; omega)).trans h1, okN.step h2 id ev k2, okN.step h3 id ev k2, ⟨hn, by rw [List.length_set]; exact h4.2.1, fun j' m' hm' => ?_⟩, h7⟩, k2.below (fun x hx => by simp at hx; omega) (by omega)⟩
  by_cases hj : j' = j
  · subst hj
    rw [hm] at hm'
    cases hm'
    refine ⟨y, u, vc, vh, by rw [List.getElem?_set_self (by rw [h4.2.1]; exact (List.getElem?_eq_some_iff.1 hm).1)], by rw [hy, e2]; rfl, ?_, ?_, ?_⟩
    · exact okN.step hu (fun _ => trivial) ev k2
    · exact okN.step p1 (fun hh => by omega) ev k2
    · exact okN.step p2 (fun hh => by omega) ev k2
  · obtain ⟨r', vp', vc', vh', f1, f2, q0, q1, q2⟩ := h4.2.2 j' m' hm'
    exact ⟨r', vp', vc', vh', by rw [List.getElem?_set_ne (by omega)]; exact f1, f2, okN.step q0 (fun hh => by omega) ev k2, okN.step q1 (fun hh => by omega) ev k2, okN.step q2 (fun hh => by omega) ev k2⟩
theorem CpC.get1 {w : World} {B j : Nat} {vi vf vm : Value} {rs : List (Raw 9)} {c : Cls} {m : Mth} {t : Nat} (h : CpC w B vi vf vm rs c t) (hm : c.methods[j]? = some m) :
    ∃ g cap pp cp ok, vm = .slice (some ⟨g, 0, none⟩) c.methods.length cap ∧ B + 1 ≤ g ∧ g < w.heap.size ∧ w.cell? ⟨g, j * 9 + 7, none⟩ = some (.slice pp m.code.length cp) ∧ RdX 7 (sP insC) ok w (.slice pp m.code.length cp) m.code := by
  obtain ⟨r, vp, vc, vh, e1, e2, p0, p1, p2⟩ := h.2.2.2.1.2.2 j m hm
  obtain ⟨g, cap, e, hg, hl, -, hc, -⟩ := h.2.2.2.1.raw hm 7 (by decide) (.int .i64 0) rfl e1
  obtain ⟨pp, cp, rfl, -⟩ := p1.len
  exact ⟨g, cap, pp, cp, _, e, hg, hl, hc 7 _ (by rw [e2]; rfl), p1⟩
theorem CpC.put1 {w : World} {B j : Nat} {vi vf vm u : Value} {rs : List (Raw 9)} {c : Cls} {m : Mth} (h : CpC w B vi vf vm rs c (3 * j + 1)) (hm : c.methods[j]? = some m) (ho : u.oneCell' = true) (hu : RdX 7 (sP insC) (okN B vm True) w u m.code) {g n cap : Nat} (hv : vm = .slice (some ⟨g, 0, none⟩) n cap) :
    g < w.heap.size ∧ w.frozen? ⟨g, j * 9 + 7, none⟩ = false ∧ (∃ o, w.cell? ⟨g, j * 9 + 7, none⟩ = some o) ∧ ∃ rs', CpC (w.setCell ⟨g, j * 9 + 7, none⟩ u) B vi vf vm rs' c (3 * j + 2) ∧ Below (B + 1) w (w.setCell ⟨g, j * 9 + 7, none⟩ u) := by
  have hlt := h.lt
  obtain ⟨h1, h2, h3, h4, h7⟩ := h
  obtain ⟨r, vp, vc, vh, e1, e2, p0, p1, p2⟩ := h4.2.2 j m hm
  obtain ⟨g', cap', e, hg, hl, hf, hc, y, hy, hn⟩ := h4.raw hm 7 (by decide) u ho e1
  have ev : vm.ownBlock = some g := by rw [hv]; rfl
  rw [hv] at e
  simp only [Value.slice.injEq, Option.some.injEq, Addr.mk.injEq, and_true] at e
  obtain ⟨e, -, -⟩ := e
  subst e
  have k2 : Kpt [g] w (w.setCell ⟨g, j * 9 + 7, none⟩ u) := Kpt.set _ _ _ _ _ (by simp)
  refine ⟨hl, hf _, ⟨_, hc 7 _ (by rw [e2]; rfl)⟩, _, ⟨(k2.2 B hlt (by simp; omega)).trans h1, okN.step h2 id ev k2, okN.step h3 id ev k2, ⟨hn, by rw [List.length_set]; exact h4.2.1, fun j' m' hm' => ?_⟩, h7⟩, k2.below (fun x hx => by simp at hx; omega) (by omega)⟩
  by_cases hj : j' = j
  · subst hj
    rw [hm] at hm'
    cases hm'
    refine ⟨y, vp, u, vh, by rw [List.getElem?_set_self (by rw [h4.2.1]; exact (List.getElem?_eq_some_iff.1 hm).1)], by rw [hy, e2]; rfl, ?_, ?_, ?_⟩
    · exact okN.step p0 (fun hh => by omega) ev k2
    · exact okN.step hu (fun _ => trivial) ev k2
    · exact okN.step p2 (fun hh => by omega) ev k2
  · obtain ⟨r', vp', vc', vh', f1, f2, q0, q1, q2⟩ := h4.2.2 j' m' hm'
    exact ⟨r', vp', vc', vh', by rw [List.getElem?_set_ne (by omega)]; exact f1, f2, okN.step q0 (fun hh => by omega) ev k2, okN.step q1 (fun hh => by omega) ev k2, okN.step q2 (fun hh => by omega) ev k2⟩
theorem CpC.get2 {w : World} {B j : Nat} {vi vf vm : Value} {rs : List (Raw 9)} {c : Cls} {m : Mth} {t : Nat} (h : CpC w B vi vf vm rs c t) (hm : c.methods[j]? = some m) :
    ∃ g cap pp cp ok, vm = .slice (some ⟨g, 0, none⟩) c.methods.length cap ∧ B + 1 ≤ g ∧ g < w.heap.size ∧ w.cell? ⟨g, j * 9 + 8, none⟩ = some (.slice pp m.hs.length cp) ∧ RdX 4 (sP hndC) ok w (.slice pp m.hs.length cp) m.hs := by
  obtain ⟨r, vp, vc, vh, e1, e2, p0, p1, p2⟩ := h.2.2.2.1.2.2 j m hm
  obtain ⟨g, cap, e, hg, hl, -, hc, -⟩ := h.2.2.2.1.raw hm 8 (by decide) (.int .i64 0) rfl e1
  obtain ⟨pp, cp, rfl, -⟩ := p2.len
  exact ⟨g, cap, pp, cp, _, e, hg, hl, hc 8 _ (by rw [e2]; rfl), p2⟩
theorem CpC.put2 {w : World} {B j : Nat} {vi vf vm u : Value} {rs : List (Raw 9)} {c : Cls} {m : Mth} (h : CpC w B vi vf vm rs c (3 * j + 2)) (hm : c.methods[j]? = some m) (ho : u.oneCell' = true) (hu : RdX 4 (sP hndC) (okN B vm True) w u m.hs) {g n cap : Nat} (hv : vm = .slice (some ⟨g, 0, none⟩) n cap) :
    g < w.heap.size ∧ w.frozen? ⟨g, j * 9 + 8, none⟩ = false ∧ (∃ o, w.cell? ⟨g, j * 9 + 8, none⟩ = some o) ∧ ∃ rs', CpC (w.setCell ⟨g, j * 9 + 8, none⟩ u) B vi vf vm rs' c (3 * j + 3) ∧ Below (B + 1) w (w.setCell ⟨g, j * 9 + 8, none⟩ u) := by
  have hlt := h.lt
  obtain ⟨h1, h2, h3, h4, h7⟩ := h
  obtain ⟨r, vp, vc, vh, e1, e2, p0, p1, p2⟩ := h4.2.2 j m hm
  obtain ⟨g', cap', e, hg, hl, hf, hc, y, hy, hn⟩ := h4.raw hm 8 (by decide) u ho e1
  have ev : vm.ownBlock = some g := by rw [hv]; rfl
  rw [hv] at e
  simp only [Value.slice.injEq, Option.some.injEq, Addr.mk.injEq, and_true] at e
  obtain ⟨e, -, -⟩ := e
  subst e
  have k2 : Kpt [g] w (w.setCell ⟨g, j * 9 + 8, none⟩ u) := Kpt.set _ _ _ _ _ (by simp)
  refine ⟨hl, hf _, ⟨_, hc 8 _ (by rw [e2]; rfl)⟩, _, ⟨(k2.2 B hlt (by simp; omega)).trans h1, okN.step h2 id ev k2, okN.step h3 id ev k2, ⟨hn, by rw [List.length_set]; exact h4.2.1, fun j' m' hm' => ?_⟩, h7⟩, k2.below (fun x hx => by simp at hx; omega) (by omega)⟩
  by_cases hj : j' = j
  · subst hj
    rw [hm] at hm'
    cases hm'
    refine ⟨y, vp, vc, u, by rw [List.getElem?_set_self (by rw [h4.2.1]; exact (List.getElem?_eq_some_iff.1 hm).1)], by rw [hy, e2]; rfl, ?_, ?_, ?_⟩
    · exact okN.step p0 (fun hh => by omega) ev k2
    · exact okN.step p1 (fun hh => by omega) ev k2
    · exact okN.step hu (fun _ => trivial) ev k2
  · obtain ⟨r', vp', vc', vh', f1, f2, q0, q1, q2⟩ := h4.2.2 j' m' hm'
    exact ⟨r', vp', vc', vh', by rw [List.getElem?_set_ne (by omega)]; exact f1, f2, okN.step q0 (fun hh => by omega) ev k2, okN.step q1 (fun hh => by omega) ev k2, okN.step q2 (fun hh => by omega) ev k2⟩
theorem step_copyX {α : Type} {sz bytes : Nat} {T TS : TypeId} {z : Value} (hI : Inf T TS sz bytes z) {c : α → List Value} (hS : Shape (sP c) sz) {w : World} {ops : Array Oper} {o : Oper} {a : Act} {K : Act → World → Prop} {Q : Exit → Act → World → Prop} {E : Prop}
    (hw : Region.wanted o (yielded ops a.tmps) = true) (s x : Operand)
    (ho : o.op = .call { callee := .builtin .append, args := #[s, x], argTypes := #[TS, TS] }) (hs : a.eval s = .slice none 0 0) {ok : Nat → Prop} (p : Option Addr) (n cap : Nat) (ys : List α) (hx : a.eval x = .slice p n cap) (hr : RdX sz (sP c) ok w (.slice p n cap) ys) (hb : ys.length ≤ 1000000)
    (h : ∀ p' n' c' w', OwnX sz T (sP c) w' w.heap.size (.slice p' n' c') ys → Below w.heap.size w w' → K (a.put o.dst (.slice p' n' c')) w') :
    if Region.wanted o (yielded ops a.tmps) = true then Oper.wp Tryz.prog o a w K Q else E := by
  rw [if_pos hw]
  obtain ⟨v', w', hrun, g1, g2⟩ := run_copyX hI hS w ys hr hb o.type
  obtain ⟨p', n', c', rfl⟩ := g1.slice
  unfold Oper.wp execOp
  simp only [ho, resolve, invoke, builtin, Sem.run_bind, Sem.run_pure, Result.andThen_ok, List.map_toArray, List.map_cons, List.map_nil, hs, hx]
  simp only [hrun]
  exact h _ _ _ _ g1 g2
theorem okN.new {α : Type} {sz : Nat} {T : TypeId} {c : α → List Value} {w w' : World} {B : Nat} {vm v : Value} {xs : List α} (h : OwnX sz T (sP c) w' w.heap.size v xs) (hB : B < w.heap.size) (hv : ∀ g, vm.ownBlock = some g → g < w.heap.size) : RdX sz (sP c) (okN B vm True) w' v xs :=
  (h.rd (sP.grow _)).step (sP.grow _) (fun b hb _ => ⟨fun _ => by omega, by omega, fun e => by have := hv b e; omega⟩) (fun _ _ _ => rfl) (Nat.le_refl _)
end Go.Proofs.YtlmpnmnfloeoiaaGreat.R
namespace Go.Proofs.YtlmpnmnfloeoiaaGreat.R
open Go.RowKit Go.Proofs.YtlmpnmnfloeoiaaGreat.D Go.Proofs.YtlmpnmnfloeoiaaGreat.O Go.Proofs.YtlmpnmnfloeoiaaGreat.A
def okQ (lo hi : Nat) (vm : Value) : Nat → Prop := fun b => lo ≤ b ∧ b < hi ∧ vm.ownBlock ≠ some b
def okI (lo hi : Nat) : Nat → Prop := fun b => lo ≤ b ∧ b < hi
def cQ (lo hi : Nat) (w : World) (vs : List Value) (c : Cls) : Prop :=
  ∃ (vi vf vm : Value) (rs : List (Raw 9)), vs = [.string c.name, .string c.super, vi, .int .i64 c.kind, vf, vm] ∧ RdX 1 (sP strC) (okQ lo hi vm) w vi c.ifaces ∧ RdX 4 (sP fldC) (okQ lo hi vm) w vf c.fields ∧
    OwnR 9 42 rawC (okI lo hi) w vm rs ∧ All2 (fun r m => mP (okQ lo hi vm) w (rawC r) m) rs c.methods
theorem cQ.keep {lo hi : Nat} {w w' : World} {vs : List Value} {c : Cls} (h : cQ lo hi w vs c) (hk : Keeps (okI lo hi) w w') (hs : w.heap.size ≤ w'.heap.size) : cQ lo hi w' vs c := by
  obtain ⟨vi, vf, vm, rs, e, h1, h2, h3, h4⟩ := h
  have hk2 : Keeps (okQ lo hi vm) w w' := fun b hb hl => hk b ⟨hb.1, hb.2.1⟩ hl
  exact ⟨vi, vf, vm, rs, e, h1.step (sP.grow _) (fun _ h _ => h) hk2 hs, h2.step (sP.grow _) (fun _ h _ => h) hk2 hs, h3.step (fun _ h _ => h) hk, h4.imp (fun r m h => mP.grow _ _ _ _ _ _ h (fun _ h _ => h) hk2 hs)⟩
theorem cQ.below {lo hi : Nat} {w w' : World} {vs : List Value} {c : Cls} (h : cQ lo hi w vs c) (hb : Below w.heap.size w w') : cQ lo hi w' vs c := h.keep (fun b _ hl => hb.block b hl) hb.size
theorem cQ.hi {lo hi hi' : Nat} {w : World} {vs : List Value} {c : Cls} (h : cQ lo hi w vs c) (hh : hi ≤ hi') : cQ lo hi' w vs c := by
  obtain ⟨vi, vf, vm, rs, e, h1, h2, h3, h4⟩ := h
  have ho : ∀ b, okQ lo hi vm b → b < w.heap.size → okQ lo hi' vm b := fun b hb _ => ⟨hb.1, Nat.lt_of_lt_of_le hb.2.1 hh, hb.2.2⟩
  exact ⟨vi, vf, vm, rs, e, h1.step (sP.grow _) ho (fun _ _ _ => rfl) (Nat.le_refl _), h2.step (sP.grow _) ho (fun _ _ _ => rfl) (Nat.le_refl _), h3.step (fun b hb _ => ⟨hb.1, Nat.lt_of_lt_of_le hb.2 hh⟩) (fun _ _ _ => rfl), h4.imp (fun r m h => mP.grow _ _ _ _ _ _ h ho (fun _ _ _ => rfl) (Nat.le_refl _))⟩
theorem CpC.q {w : World} {B : Nat} {vi vf vm : Value} {rs : List (Raw 9)} {c : Cls} (h : CpC w B vi vf vm rs c (3 * c.methods.length)) : cQ (B + 1) w.heap.size w [.string c.name, .string c.super, vi, .int .i64 c.kind, vf, vm] c := by
  obtain ⟨h1, h2, h3, ⟨h4, h5, h6⟩, h7⟩ := h
  have hst : ∀ {α : Type} {sz : Nat} {cc : α → List Value} {v : Value} {xs : List α} {P : Prop}, P → RdX sz (sP cc) (okN B vm P) w v xs → RdX sz (sP cc) (okQ (B + 1) w.heap.size vm) w v xs := fun p h => h.step (sP.grow _) (fun b hb hl => ⟨hb.1 p, hl, hb.2.2⟩) (fun _ _ _ => rfl) (Nat.le_refl _)
  refine ⟨vi, vf, vm, rs, rfl, hst trivial h2, hst trivial h3, ⟨h4.mono (sP.grow _) (Nat.zero_le _), fun g e => ⟨(h4.lt g e).1, (h4.lt g e).2⟩⟩, all2_of h5 (fun j m hm => ?_)⟩
  obtain ⟨r, vp, vc, vh, e1, e2, p1, p2, p3⟩ := h6 j m hm
  have hj := (List.getElem?_eq_some_iff.1 hm).1
  exact ⟨r, e1, vp, vc, vh, e2, hst (by omega) p1, hst (by omega) p2, hst (by omega) p3⟩
def RwQ (w : World) (B : Nat) (va : Value) (rs : List (Raw 6)) (K : List Cls) (lo hi : Nat → Nat) : Prop :=
  OwnX 6 27 (sP rawC) w B va rs ∧ rs.length = K.length ∧ (∀ j c, K[j]? = some c → ∃ r, rs[j]? = some r ∧ cQ (lo j) (hi j) w (rawC r) c) ∧
    (∀ j, j < K.length → B ≤ lo j ∧ hi j ≤ w.heap.size ∧ ∀ g, va.ownBlock = some g → ¬ (lo j ≤ g ∧ g < hi j)) ∧ (∀ j j', j < j' → j' < K.length → hi j ≤ lo j')
def ArQ (w : World) (B a : Nat) (va : Value) (rs : List (Raw 6)) (K : List Cls) (lo hi : Nat → Nat) : Prop :=
  w.heap[a]? = some (.cells #[va] 30 (0, 0)) ∧ a + 1 = B ∧ RwQ w B va rs K lo hi
theorem ArQ.lt {w : World} {B a : Nat} {va : Value} {rs : List (Raw 6)} {K : List Cls} {lo hi : Nat → Nat} (h : ArQ w B a va rs K lo hi) : a < w.heap.size := (Array.getElem?_eq_some_iff.1 h.1).1
theorem ArQ.cells {w : World} {B a : Nat} {va : Value} {rs : List (Raw 6)} {K : List Cls} {lo hi : Nat → Nat} (h : ArQ w B a va rs K lo hi) : a < w.heap.size ∧ w.cell? ⟨a, 0, none⟩ = some va ∧ w.frozen? ⟨a, 0, none⟩ = false := by
  have h3 := h.1
  refine ⟨h.lt, ?_, ?_⟩ <;> simp [World.cell?, World.frozen?, h3]
theorem RwQ.below {w w' : World} {B : Nat} {va : Value} {rs : List (Raw 6)} {K : List Cls} {lo hi : Nat → Nat} (h : RwQ w B va rs K lo hi) (hb : Below w.heap.size w w') : RwQ w' B va rs K lo hi := by
  obtain ⟨h1, h2, h3, h4, h5⟩ := h
  refine ⟨h1.kptS (.of_below hb : Kpt [] w w') (fun _ _ => by simp), h2, fun j c hc => ?_, fun j hj => ⟨(h4 j hj).1, Nat.le_trans (h4 j hj).2.1 hb.size, (h4 j hj).2.2⟩, h5⟩
  obtain ⟨r, e, q⟩ := h3 j c hc
  exact ⟨r, e, q.below hb⟩
theorem ArQ.below {w w' : World} {B a : Nat} {va : Value} {rs : List (Raw 6)} {K : List Cls} {lo hi : Nat → Nat} (h : ArQ w B a va rs K lo hi) (hb : Below w.heap.size w w') : ArQ w' B a va rs K lo hi :=
  ⟨(hb.block _ h.lt).trans h.1, h.2.1, h.2.2.below hb⟩
theorem ArQ.app {w w1 : World} {B a L : Nat} {va v' : Value} {rs : List (Raw 6)} {K : List Cls} {lo hi : Nat → Nat} {rX : Raw 6} {c : Cls} (h : ArQ w B a va rs K lo hi) (hL : L ≤ w.heap.size) (hva : ∀ g, va.ownBlock = some g → g < L) (hhi : ∀ j, j < K.length → hi j ≤ L) (hBL : B ≤ L) (hq : cQ L w.heap.size w (rawC rX) c) (ho : OwnX 6 27 (sP rawC) w1 B v' (rs ++ [rX])) (hg : w.grownBy w1 va.ownBlock) (hl : v'.ownBlock = va.ownBlock ∨ v'.ownBlock = some w.heap.size) :
    a < w1.heap.size ∧ w1.cell? ⟨a, 0, none⟩ = some va ∧ w1.frozen? ⟨a, 0, none⟩ = false ∧ (∃ lo' hi', ArQ (w1.setCell ⟨a, 0, none⟩ v') B a v' (rs ++ [rX]) (K ++ [c]) lo' hi') ∧ Below a w (w1.setCell ⟨a, 0, none⟩ v') := by
  have hlt := h.lt
  obtain ⟨h1, hBa, h3, h4, h5, h6, h7⟩ := h
  have hva2 : ∀ g, va.ownBlock = some g → g ≠ a ∧ g < w.heap.size := fun g e => by have := h3.lt g e; omega
  have hw1 : w1.heap[a]? = some (.cells #[va] 30 (0, 0)) := by rw [hg.block a hlt (fun e => (hva2 a e.symm).1 rfl)]; exact h1
  have k2 : Kpt [a] w1 (w1.setCell ⟨a, 0, none⟩ v') := Kpt.set _ _ _ _ _ (by simp)
  have hv' : ∀ g, v'.ownBlock = some g → g ≠ a := fun g e => by have := (ho.lt g e).1; omega
  have hsz : w.heap.size ≤ (w1.setCell ⟨a, 0, none⟩ v').heap.size := Nat.le_trans hg.size k2.size
  have hkeep : ∀ l u, B ≤ l → (∀ g, va.ownBlock = some g → ¬ (l ≤ g ∧ g < u)) → Keeps (okI l u) w (w1.setCell ⟨a, 0, none⟩ v') := fun l u hl hu b hb hlb => by
    rw [k2.2 b (Nat.lt_of_lt_of_le hlb hg.size) (by have := hb.1; simp; omega), hg.block b hlb (fun e => hu b e.symm ⟨hb.1, hb.2⟩)]
  have hcases : ∀ g, v'.ownBlock = some g → va.ownBlock = some g ∨ g = w.heap.size := fun g e => by
    rcases hl with e' | e'
    · exact .inl (by rw [← e']; exact e)
    · rw [e'] at e; cases e; exact .inr rfl
  refine ⟨Nat.lt_of_lt_of_le hlt hg.size, by simp [World.cell?, hw1], by simp [World.frozen?, hw1], ⟨fun j => if j < K.length then lo j else L, fun j => if j < K.length then hi j else w.heap.size, ?_, hBa, ho.kptS k2 (fun g e => by simp; exact hv' g e), by simp [h4], fun j d hd => ?_, fun j hj => ?_, fun j j' hjj hj' => ?_⟩, ?_⟩
  · rw [heap_setCell_same w1 a 0 _ _ _ hw1]; rfl
  · by_cases hj : j < K.length
    · rw [List.getElem?_append_left hj] at hd
      obtain ⟨r, e, q⟩ := h5 j d hd
      refine ⟨r, by rw [List.getElem?_append_left (by omega)]; exact e, ?_⟩
      dsimp only
      rw [if_pos hj, if_pos hj]
      exact q.keep (hkeep _ _ (h6 j hj).1 (h6 j hj).2.2) hsz
    · have hjl := (List.getElem?_eq_some_iff.1 hd).1
      rw [List.length_append, List.length_singleton] at hjl
      obtain rfl : j = K.length := by omega
      rw [List.getElem?_append_right (Nat.le_refl _), Nat.sub_self] at hd
      cases hd
      refine ⟨rX, by rw [List.getElem?_append_right (by omega), h4, Nat.sub_self]; rfl, ?_⟩
      dsimp only
      rw [if_neg hj, if_neg hj]
      exact hq.keep (hkeep _ _ hBL (fun g e hh => by have := hva g e; omega)) hsz
  · by_cases hjk : j < K.length
    · dsimp only
      rw [if_pos hjk, if_pos hjk]
      refine ⟨(h6 j hjk).1, Nat.le_trans (h6 j hjk).2.1 hsz, fun g e => ?_⟩
      rcases hcases g e with e' | rfl
      · exact (h6 j hjk).2.2 g e'
      · have := (h6 j hjk).2.1; omega
    · dsimp only
      rw [if_neg hjk, if_neg hjk]
      refine ⟨hBL, hsz, fun g e => ?_⟩
      rcases hcases g e with e' | rfl
      · have := hva g e'; omega
      · omega
  · rw [List.length_append, List.length_singleton] at hj'
    have hjk : j < K.length := by omega
    dsimp only
    rw [if_pos hjk]
    by_cases hjk' : j' < K.length
    · rw [if_pos hjk']; exact h7 j j' hjj hjk'
    · rw [if_neg hjk']; exact hhi j hjk
  · have b1 : Below a w w1 := ⟨hg.os, hg.tape, hg.output, hg.size, fun k hk => hg.block k (by omega) (fun e => by have := (h3.lt k e.symm).1; omega)⟩
    exact b1.trans (k2.below (fun x hx => by simp at hx; omega) (by have := hg.size; omega))
theorem RwQ.put {w w' : World} {B B' : Nat} {va : Value} {rs : List (Raw 6)} {K : List Cls} {lo hi : Nat → Nat} {X : List Nat} (h : RwQ w B va rs K lo hi) (k : Kpt X w w') (hX : ∀ b, B ≤ b → b ∉ X) (hB : B' ≤ B) : RwQ w' B' va rs K lo hi := by
  obtain ⟨h1, h2, h3, h4, h5⟩ := h
  refine ⟨(h1.kptS k (fun g e => hX g (h1.lt g e).1)).mono (sP.grow _) hB, h2, fun j c hc => ?_, fun j hj => ⟨Nat.le_trans hB (h4 j hj).1, Nat.le_trans (h4 j hj).2.1 k.size, (h4 j hj).2.2⟩, h5⟩
  obtain ⟨r, e, q⟩ := h3 j c hc
  exact ⟨r, e, q.keep (fun b hb hl => k.2 b hl (hX b (Nat.le_trans (h4 j (List.getElem?_eq_some_iff.1 hc).1).1 hb.1))) k.size⟩
theorem RwQ.len {w : World} {B : Nat} {va : Value} {rs : List (Raw 6)} {K : List Cls} {lo hi : Nat → Nat} (h : RwQ w B va rs K lo hi) : ∃ p c, va = .slice p K.length c := by
  obtain ⟨p, c, e, -⟩ := (h.1.rd (sP.grow _)).len
  rw [h.2.1] at e
  exact ⟨p, c, e⟩
end Go.Proofs.YtlmpnmnfloeoiaaGreat.R
