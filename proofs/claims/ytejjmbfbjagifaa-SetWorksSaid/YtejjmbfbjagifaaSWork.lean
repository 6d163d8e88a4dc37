/- What Again, Put, Take tell of a Work. -/
import Derived.Test.YtejjmbfbjagifaaSHeap
namespace Go.Proofs.Ytejjmbfbjagifaa.S
open Go.RowKit Go.Maps

/-- nothing but what is of ok, and what is new, has changed -/
def Kp (ok : Nat → Prop) (w w' : World) : Prop := Below 0 w w' ∧ ∀ g, g < w.heap.size → ¬ ok g → w'.heap[g]? = w.heap[g]?
theorem Kp.of_kpt {ok : Nat → Prop} {S : List Nat} {w w' : World} (h : Kpt S w w') (hS : ∀ x ∈ S, x < w.heap.size → ok x) : Kp ok w w' := ⟨h.1, fun g hg hn => h.2 g hg (fun hx => hn (hS g hx hg))⟩
theorem Kp.trans {ok : Nat → Prop} {a b c : World} (h : Kp ok a b) (k : Kp ok b c) : Kp ok a c := ⟨h.1.trans k.1, fun g hg hn => (k.2 g (Nat.lt_of_lt_of_le hg h.1.size) hn).trans (h.2 g hg hn)⟩
theorem Kp.refl (ok : Nat → Prop) (w : World) : Kp ok w w := ⟨Below.refl _ _, fun _ _ _ => rfl⟩
theorem Kp.size {ok : Nat → Prop} {w w' : World} (h : Kp ok w w') : w.heap.size ≤ w'.heap.size := h.1.size
theorem Kp.mono {ok ok' : Nat → Prop} {w w' : World} (h : Kp ok w w') (ho : ∀ b, b < w.heap.size → ok b → ok' b) : Kp ok' w w' := ⟨h.1, fun g hg hn => h.2 g hg (fun hk => hn (ho g hg hk))⟩
theorem Kp.kpt {ok : Nat → Prop} {S : List Nat} {w w' : World} (h : Kp ok w w') (hS : ∀ b, ok b → b < w.heap.size → b ∈ S) : Kpt S w w' := ⟨h.1, fun g hg hn => h.2 g hg (fun hk => hn (hS g hk hg))⟩
theorem Kp.below {ok : Nat → Prop} {w w' : World} {B : Nat} (h : Kp ok w w') (hb : ∀ b, ok b → B ≤ b) (hB : B ≤ w.heap.size) : Below B w w' :=
  ⟨h.1.os, h.1.tape, h.1.output, h.1.size, fun k hk => h.2 k (by omega) (fun ho => by have := hb k ho; omega)⟩
theorem Kp.block {ok : Nat → Prop} {w w' : World} (h : Kp ok w w') {b : Nat} {o : Obj} (hb : w.heap[b]? = some o) (hn : ¬ ok b) : w'.heap[b]? = some o := (h.2 b (Array.getElem?_eq_some_iff.1 hb).1 hn).trans hb

theorem perm_pop {α : Type} (d x z : α) (H : List α) (h0 : H[0]? = some x) (hz : H[H.length - 1]? = some z) : (x :: (((H.set 0 z).set (H.length - 1) d).take (H.length - 1))).Perm H := by
  rcases H with _ | ⟨a, t⟩
  · simp at h0
  · simp only [List.getElem?_cons_zero, Option.some.injEq] at h0
    subst h0
    rcases List.eq_nil_or_concat t with rfl | ⟨m, y, rfl⟩
    · simp
    · rw [List.concat_eq_append] at hz ⊢
      have hy : z = y := by
        simp at hz
        exact hz.symm
      subst hy
      simp only [List.set_cons_zero, List.length_cons, List.length_append, List.length_nil, Nat.add_sub_cancel, Nat.zero_add]
      rw [List.set_cons_succ, List.set_append_right _ _ (Nat.le_refl _)]
      simp only [Nat.sub_self, List.set_cons_zero, List.take_succ_cons, List.take_left']
      exact List.Perm.cons _ ((List.perm_append_comm (l₁ := m) (l₂ := [z])).symm)

theorem delS_perm {α : Type} [DecidableEq α] {x : α} {H N : List α} (h : (x :: H).Perm N) (hn : N.Nodup) : H.Perm (delS N x) := by
  have h1 : (x :: H).Nodup := h.nodup_iff.2 hn
  have h2 : x ∉ H := (List.nodup_cons.1 h1).1
  have h3 : delS (x :: H) x = H := by
    unfold delS
    rw [List.filter_cons_of_neg (by simp), List.filter_eq_self]
    intro y hy
    exact decide_eq_true (fun e => h2 (e ▸ hy))
  have h4 : (delS (x :: H) x).Perm (delS N x) := h.filter _
  rw [h3] at h4
  exact h4

/-- a Work in block wb: what ever was put, what is to be done; its blocks are of ok -/
def WqI (ok : Nat → Prop) (w : World) (wb : Nat) (E N : List Int) : Prop :=
  ∃ (se me sn mn : Nat) (sl : Value) (H : List Int), [wb, se, me, sn, mn].Nodup ∧ (∀ g, sl.ownBlock = some g → g ∉ [wb, se, me, sn, mn]) ∧
    HwI w 0 wb (.pointer (some ⟨se, 0, none⟩)) (.pointer (some ⟨sn, 0, none⟩)) sl H ∧ StI w 0 se me E ∧ StI w 0 sn mn N ∧ Hp ltI (0 : Int) H ∧ H.Perm N ∧ (∀ b ∈ [wb, se, me, sn, mn], ok b) ∧ (∀ g, sl.ownBlock = some g → ok g)
theorem WqI.mono {ok ok' : Nat → Prop} {w : World} {wb : Nat} {E N : List Int} (h : WqI ok w wb E N) (ho : ∀ b, ok b → b < w.heap.size → ok' b) : WqI ok' w wb E N := by
  obtain ⟨se, me, sn, mn, sl, H, h1, h2, h3, h4, h5, h6, h7, h8, h9⟩ := h
  have l1 := h3.cells.1
  have l2 := h4.lt
  have l3 := h5.lt
  refine ⟨se, me, sn, mn, sl, H, h1, h2, h3, h4, h5, h6, h7, fun b hb => ho b (h8 b hb) ?_, fun g hg => ho g (h9 g hg) (h3.2.1.lt g hg).2⟩
  simp only [List.mem_cons, List.not_mem_nil, or_false] at hb
  rcases hb with rfl | rfl | rfl | rfl | rfl
  · exact l1
  · exact l2.1
  · exact l2.2.1
  · exact l3.1
  · exact l3.2.1
theorem WqI.kpt {ok : Nat → Prop} {w w' : World} {wb : Nat} {E N : List Int} {S : List Nat} (h : WqI ok w wb E N) (hk : Kpt S w w') (hS : ∀ x ∈ S, ¬ ok x) : WqI ok w' wb E N := by
  obtain ⟨se, me, sn, mn, sl, H, h1, h2, h3, h4, h5, h6, h7, h8, h9⟩ := h
  have hf : ∀ b ∈ [wb, se, me, sn, mn], b ∉ S := fun b hb hs => hS b hs (h8 b hb)
  refine ⟨se, me, sn, mn, sl, H, h1, h2, ⟨hk.block h3.1 (hf wb (by simp)), h3.2.1.kpt hk (fun g hg hs => hS g hs (h9 g hg)), h3.2.2⟩, h4.kpt hk (hf se (by simp)) (hf me (by simp)), h5.kpt hk (hf sn (by simp)) (hf mn (by simp)), h6, h7, h8, h9⟩
theorem WqI.bel {ok : Nat → Prop} {w w' : World} {wb : Nat} {E N : List Int} (h : WqI ok w wb E N) (hb : Below w.heap.size w w') : WqI ok w' wb E N := h.kpt (.of_below (S := []) hb) (by simp)
theorem WqI.nodup {ok : Nat → Prop} {w : World} {wb : Nat} {E N : List Int} (h : WqI ok w wb E N) : N.Nodup := by
  obtain ⟨se, me, sn, mn, sl, H, h1, h2, h3, h4, h5, _⟩ := h
  exact h5.2.2.2.nodup
theorem WqI.oks {ok : Nat → Prop} {w : World} {wb : Nat} {E N : List Int} (h : WqI ok w wb E N) : ∀ x ∈ N, okI x := by
  obtain ⟨se, me, sn, mn, sl, H, h1, h2, h3, h4, h5, _⟩ := h
  exact h5.2.2.2.oks

/-- behind the append: the Work's third field is set -/
theorem again_end_I {ok : Nat → Prop} {w2 w3 w4 : World} {wb se me sn mn : Nat} {sl v' : Value} {E N H : List Int} {x : Int} {o : Obj} (h1 : [wb, se, me, sn, mn].Nodup) (h2 : ∀ g, sl.ownBlock = some g → g ∉ [wb, se, me, sn, mn])
    (h3 : HwI w2 0 wb (.pointer (some ⟨se, 0, none⟩)) (.pointer (some ⟨sn, 0, none⟩)) sl H) (h4 : StI w2 0 se me E) (h5 : StI w2 0 sn mn N) (h7 : (H ++ [x]).Perm N) (h8 : ∀ b ∈ [wb, se, me, sn, mn], ok b) (h9 : ∀ g, sl.ownBlock = some g → ok g)
    (hnew : ∀ b, w2.heap.size ≤ b → ok b) (ho : OwnC cI 3 w3 0 v' (H ++ [x])) (hg : (w2.alloc o).grownBy w3 sl.ownBlock) (hl : v'.ownBlock = sl.ownBlock ∨ v'.ownBlock = some (w2.alloc o).heap.size) (hw4 : w4 = w3.setCell ⟨wb, 2, none⟩ v') :
    w3.cell? ⟨wb, 2, none⟩ = some sl ∧ w3.frozen? ⟨wb, 2, none⟩ = false ∧ wb < w3.heap.size ∧ HwI w4 0 wb (.pointer (some ⟨se, 0, none⟩)) (.pointer (some ⟨sn, 0, none⟩)) v' (H ++ [x]) ∧
    ∀ w5 H', HwI w5 0 wb (.pointer (some ⟨se, 0, none⟩)) (.pointer (some ⟨sn, 0, none⟩)) v' H' → H'.Perm (H ++ [x]) → Hp ltI (0 : Int) H' → Kpt v'.ownBlock.toList w4 w5 → WqI ok w5 wb E N ∧ Kp ok w2 w5 := by
  have hlt : ∀ b ∈ [wb, se, me, sn, mn], b < w2.heap.size := by
    intro b hb
    have l1 := h3.cells.1
    have l2 := h4.lt
    have l3 := h5.lt
    simp only [List.mem_cons, List.not_mem_nil, or_false] at hb
    rcases hb with rfl | rfl | rfl | rfl | rfl
    · exact l1
    · exact l2.1
    · exact l2.2.1
    · exact l3.1
    · exact l3.2.1
  have hv : ∀ g, v'.ownBlock = some g → g ∉ [wb, se, me, sn, mn] := by
    intro g hgv
    rcases hl with e | e
    · exact h2 g (e ▸ hgv)
    · rw [e] at hgv
      cases hgv
      intro hb
      have := hlt _ hb
      simp at this
      omega
  have hvok : ∀ g, v'.ownBlock = some g → ok g := by
    intro g hgv
    rcases hl with e | e
    · exact h9 g (e ▸ hgv)
    · rw [e] at hgv
      cases hgv
      exact hnew _ (by simp)
  have k3 : Kpt sl.ownBlock.toList w2 w3 := (Kpt.alloc _ w2 o).trans (.of_grown (S := sl.ownBlock.toList) hg (fun g e => .inl (by rw [e]; simp))) (fun x hx => .inl hx)
  have hwb3 : w3.heap[wb]? = some (.cells #[.pointer (some ⟨se, 0, none⟩), .pointer (some ⟨sn, 0, none⟩), sl] 70 (0, 0)) := k3.block h3.1 (by
    intro hx
    have := h2 wb (by simpa using hx)
    simp at this)
  have k4 : Kpt [wb] w3 w4 := by rw [hw4]; exact Kpt.set _ _ _ _ _ (by simp)
  have hwb4 : w4.heap[wb]? = some (.cells #[.pointer (some ⟨se, 0, none⟩), .pointer (some ⟨sn, 0, none⟩), v'] 70 (0, 0)) := by
    rw [hw4, heap_setCell_same w3 wb 2 _ _ _ hwb3]; rfl
  have hvw : v'.ownBlock ≠ some wb := fun e => by have := hv wb e; simp at this
  have hH4 : HwI w4 0 wb (.pointer (some ⟨se, 0, none⟩)) (.pointer (some ⟨sn, 0, none⟩)) v' (H ++ [x]) := ⟨hwb4, ho.kpt k4 (fun g e hx => hvw (by rw [e, List.mem_singleton.1 hx])), hvw⟩
  refine ⟨by simp [World.cell?, hwb3], by simp [World.frozen?, hwb3], (Array.getElem?_eq_some_iff.1 hwb3).1, hH4, fun w5 H' g1 g2 g3 g4 => ?_⟩
  have nin : ∀ b ∈ [wb, se, me, sn, mn], b ∉ sl.ownBlock.toList ∧ b ∉ v'.ownBlock.toList := fun b hb => ⟨fun hx => h2 b (by simpa using hx) hb, fun hx => hv b (by simpa using hx) hb⟩
  have nw : ∀ b ∈ [se, me, sn, mn], b ∉ [wb] := by
    intro b hb he
    rw [List.mem_singleton] at he
    subst he
    exact (List.nodup_cons.1 h1).1 hb
  have keep : ∀ {s m : Nat} {L : List Int}, StI w2 0 s m L → s ∈ [se, me, sn, mn] → m ∈ [se, me, sn, mn] → StI w5 0 s m L := fun hs m1 m2 =>
    ((hs.kpt k3 (nin _ (List.mem_cons_of_mem _ m1)).1 (nin _ (List.mem_cons_of_mem _ m2)).1).kpt k4 (nw _ m1) (nw _ m2)).kpt g4 (nin _ (List.mem_cons_of_mem _ m1)).2 (nin _ (List.mem_cons_of_mem _ m2)).2
  refine ⟨⟨se, me, sn, mn, v', H', h1, hv, g1, keep h4 (by simp) (by simp), keep h5 (by simp) (by simp), g3, g2.trans h7, h8, hvok⟩, ?_⟩
  refine ((Kp.of_kpt k3 (fun y hy _ => h9 y (by simpa using hy))).trans (Kp.of_kpt k4 (fun y hy _ => by rw [List.mem_singleton.1 hy]; exact h8 wb (by simp)))).trans (Kp.of_kpt g4 (fun y hy _ => hvok y (by simpa using hy)))

set_option maxHeartbeats 2000000 in
set_option maxRecDepth 100000 in
theorem again_I (ok : Nat → Prop) (wb : Nat) (E N : List Int) (x : Int) (w : World) (h : WqI ok w wb E N) (hx : okI x) (hE : E.length ≤ 10000) (hN : N.length ≤ 10000) (hnew : ∀ b, w.heap.size ≤ b → ok b) :
    Calls Try.prog 25 #[.pointer (some ⟨wb, 0, none⟩), .int .i64 x] w fun e w' => e = .returned (.tuple #[]) ∧ WqI ok w' wb (addS E x) (addS N x) ∧ Kp ok w w' := by
  obtain ⟨se, me, sn, mn, sl, H, h1, h2, h3, h4, h5, h6, h7, h8, h9⟩ := h
  have H1 := Lib.hid h1
  have H2 := Lib.hid h2
  have H6 := Lib.hid h6
  have H7 := Lib.hid h7
  have H8 := Lib.hid h8
  have H9 := Lib.hid h9
  have HN := Lib.hid hnew
  simp only [List.nodup_cons, List.mem_cons, List.not_mem_nil, or_false, not_or, List.nodup_nil, and_true, not_false_eq_true] at h1
  obtain ⟨⟨n1, n2, n3, n4⟩, ⟨n5, n6, n7⟩, ⟨n8, n9⟩, n10⟩ := h1
  obtain ⟨hlt, c0, c1, c2, f2⟩ := h3.cells
  clear h2 h6 h7 h8 h9 hnew
  go_enter Try.func25, Try.ntmps25
  go_wp2_with fail
  refine (add_I 0 se me E x w h4 hx (by omega)).mono ?_
  rintro e w1 ⟨rfl, hs1, k1⟩
  have h3' : HwI w1 0 wb (.pointer (some ⟨se, 0, none⟩)) (.pointer (some ⟨sn, 0, none⟩)) sl H := ⟨k1.block h3.1 (by simp; omega), h3.2.1.kpt k1 (fun g e hg => H2.out g e (by rw [List.mem_singleton.1 hg]; simp)), h3.2.2⟩
  have h5' : StI w1 0 sn mn N := h5.kpt k1 (by simp; omega) (by simp; omega)
  have K1 : Hid (Kp ok w w1) := Lib.hid (Kp.of_kpt k1 (fun y hy _ => H8.out y (by rw [List.mem_singleton.1 hy]; simp)))
  clear h3 h4 h5 c0 c1 c2 f2 hlt k1
  obtain ⟨hlt, c0, c1, c2, f2⟩ := h3'.cells
  go_wp2_with fail
  refine (add_I 0 sn mn N x w1 h5' hx (by omega)).mono ?_
  rintro e w2 ⟨rfl, hs2, k2⟩
  have h3 : HwI w2 0 wb (.pointer (some ⟨se, 0, none⟩)) (.pointer (some ⟨sn, 0, none⟩)) sl H := ⟨k2.block h3'.1 (by simp; omega), h3'.2.1.kpt k2 (fun g e hg => H2.out g e (by rw [List.mem_singleton.1 hg]; simp)), h3'.2.2⟩
  have h4 : StI w2 0 se me (addS E x) := hs1.kpt k2 (by simp; omega) (by simp; omega)
  have K2 : Hid (Kp ok w w2) := Lib.hid (K1.out.trans (Kp.of_kpt k2 (fun y hy _ => H8.out y (by rw [List.mem_singleton.1 hy]; simp))))
  clear h3' h5' c0 c1 c2 f2 hlt k2 hs1 K1
  by_cases hin : x ∈ N
  · have hr := hasB_in hin
    rw [hr]
    rw [addS_in hin] at hs2
    go_wp2
    go_end0
    exact ⟨rfl, by rw [addS_in hin]; exact ⟨se, me, sn, mn, sl, H, H1.out, H2.out, h3, h4, hs2, H6.out, H7.out, H8.out, H9.out⟩, K2.out⟩
  · have hr := hasB_out hin
    rw [hr]
    rw [addS_out hin] at hs2
    obtain ⟨hlt, c0, c1, c2, f2⟩ := h3.cells
    have ho := h3.2.1
    have hHl : H.length ≤ 10000 := by rw [H7.out.length_eq]; exact hN
    have H3 := Lib.hid h3
    have H4 := Lib.hid h4
    have H5 := Lib.hid hs2
    have HO := Lib.hid ((ho.alloc (.cells #[.int .i64 x] 3)))
    have HX := Lib.hid (rd_one (c := cI) (x := x) (heap_alloc_new w2 (.cells #[.int .i64 x] 3)) rfl)
    obtain ⟨a, n, cp, hsl⟩ := ho.slice
    subst hsl
    clear h3 h4 hs2 ho
    go_wp2_with (at_builtin; refine wp_appC infI (fun _ => rfl) rfl _ _ rfl 0 _ H rfl HO.out (fun _ => True) _ [x] rfl HX.out (by simp; omega) (by omega) ?_)
    intro v' w3 ho3 hg3 hl3
    obtain ⟨a', n', cp', hv'⟩ := ho3.slice
    subst hv'
    obtain ⟨w4, hw4⟩ : ∃ z, z = w3.setCell ⟨wb, 2, none⟩ (.slice a' n' cp') := ⟨_, rfl⟩
    obtain ⟨d2, g2, hlt3, hH4, hfin⟩ := again_end_I (ok := ok) (x := x) H1.out H2.out H3.out H4.out H5.out (H7.out.append (List.Perm.refl _)) H8.out H9.out (fun b hb => HN.out b (Nat.le_trans K2.out.size hb)) ho3 hg3 (by rw [World.size_alloc]; exact hl3) hw4
    have HF := Lib.hid hfin
    have HH := Lib.hid hH4
    clear hfin hH4 ho3 hg3 hl3 c0 c1 c2 f2 H3 H4 H5 HO HX H1 H2 H8 H9
    go_wp2_with fail
    rw [← hw4]
    clear hw4 d2 g2 hlt3
    refine (rise_I 0 wb _ _ _ (H ++ [x]) (0 : Int) w4 HH.out (by have := H6.out.snoc x; simpa using this) (by simp) (by simp; omega)).mono ?_
    rintro e w5 ⟨rfl, H', g1, g2, g3, g4⟩
    obtain ⟨q1, q2⟩ := HF.out w5 H' g1 g2 g3 g4
    have Q1 := Lib.hid q1
    have Q2 := Lib.hid (K2.out.trans q2)
    clear q1 q2 g1 g2 g3 g4 HF HH
    go_wp2
    go_end0
    exact ⟨rfl, by rw [addS_out hin]; exact Q1.out, Q2.out⟩

set_option maxHeartbeats 2000000 in
set_option maxRecDepth 100000 in
theorem put_I (ok : Nat → Prop) (wb : Nat) (E N : List Int) (x : Int) (w : World) (h : WqI ok w wb E N) (hx : okI x) (hE : E.length ≤ 10000) (hN : N.length ≤ 10000) (hnew : ∀ b, w.heap.size ≤ b → ok b) :
    Calls Try.prog 24 #[.pointer (some ⟨wb, 0, none⟩), .int .i64 x] w fun e w' => e = .returned (.bool (!hasB E x)) ∧ WqI ok w' wb (addS E x) (putN E N x) ∧ Kp ok w w' := by
  have HW := Lib.hid h
  obtain ⟨se, me, sn, mn, sl, H, h1, h2, h3, h4, h5, h6, h7, h8, h9⟩ := h
  obtain ⟨hlt, c0, c1, c2, f2⟩ := h3.cells
  have HN := Lib.hid hnew
  clear h1 h2 h3 h5 h6 h7 h8 h9 hnew
  go_enter Try.func24, Try.ntmps24
  go_wp2_with fail
  refine (has_I 0 se me E x w h4 hx).mono ?_
  rintro e w1 ⟨rfl, hb⟩
  have HB := Lib.hid hb
  clear hb h4 c0 c1 c2 f2 hlt
  by_cases hin : x ∈ E
  · have hr := hasB_in hin
    rw [hr]
    go_wp2
    go_ret
    exact ⟨by rw [hr]; rfl, by rw [addS_in hin, putN_in hin]; exact HW.out.bel HB.out, Kp.of_kpt (.of_below (S := []) HB.out) (by simp)⟩
  · have hr := hasB_out hin
    rw [hr]
    go_wp2_with fail
    refine (again_I ok wb E N x w1 (HW.out.bel HB.out) hx hE hN (fun b hb => HN.out b (Nat.le_trans HB.out.size hb))).mono ?_
    rintro e w2 ⟨rfl, q1, q2⟩
    have Q1 := Lib.hid q1
    have Q2 := Lib.hid q2
    clear q1 q2
    go_wp2
    go_ret
    exact ⟨by rw [hr]; rfl, by rw [putN_out hin]; exact Q1.out, (Kp.of_kpt (.of_below (S := []) HB.out) (by simp)).trans Q2.out⟩
/-- a Work in block wb: what ever was put, what is to be done; its blocks are of ok -/
def WqS (ok : Nat → Prop) (w : World) (wb : Nat) (E N : List ByteArray) : Prop :=
  ∃ (se me sn mn : Nat) (sl : Value) (H : List ByteArray), [wb, se, me, sn, mn].Nodup ∧ (∀ g, sl.ownBlock = some g → g ∉ [wb, se, me, sn, mn]) ∧
    HwS w 0 wb (.pointer (some ⟨se, 0, none⟩)) (.pointer (some ⟨sn, 0, none⟩)) sl H ∧ StS w 0 se me E ∧ StS w 0 sn mn N ∧ Hp ltS (⟨#[]⟩ : ByteArray) H ∧ H.Perm N ∧ (∀ b ∈ [wb, se, me, sn, mn], ok b) ∧ (∀ g, sl.ownBlock = some g → ok g)
theorem WqS.mono {ok ok' : Nat → Prop} {w : World} {wb : Nat} {E N : List ByteArray} (h : WqS ok w wb E N) (ho : ∀ b, ok b → b < w.heap.size → ok' b) : WqS ok' w wb E N := by
  obtain ⟨se, me, sn, mn, sl, H, h1, h2, h3, h4, h5, h6, h7, h8, h9⟩ := h
  have l1 := h3.cells.1
  have l2 := h4.lt
  have l3 := h5.lt
  refine ⟨se, me, sn, mn, sl, H, h1, h2, h3, h4, h5, h6, h7, fun b hb => ho b (h8 b hb) ?_, fun g hg => ho g (h9 g hg) (h3.2.1.lt g hg).2⟩
  simp only [List.mem_cons, List.not_mem_nil, or_false] at hb
  rcases hb with rfl | rfl | rfl | rfl | rfl
  · exact l1
  · exact l2.1
  · exact l2.2.1
  · exact l3.1
  · exact l3.2.1
theorem WqS.kpt {ok : Nat → Prop} {w w' : World} {wb : Nat} {E N : List ByteArray} {S : List Nat} (h : WqS ok w wb E N) (hk : Kpt S w w') (hS : ∀ x ∈ S, ¬ ok x) : WqS ok w' wb E N := by
  obtain ⟨se, me, sn, mn, sl, H, h1, h2, h3, h4, h5, h6, h7, h8, h9⟩ := h
  have hf : ∀ b ∈ [wb, se, me, sn, mn], b ∉ S := fun b hb hs => hS b hs (h8 b hb)
  refine ⟨se, me, sn, mn, sl, H, h1, h2, ⟨hk.block h3.1 (hf wb (by simp)), h3.2.1.kpt hk (fun g hg hs => hS g hs (h9 g hg)), h3.2.2⟩, h4.kpt hk (hf se (by simp)) (hf me (by simp)), h5.kpt hk (hf sn (by simp)) (hf mn (by simp)), h6, h7, h8, h9⟩
theorem WqS.bel {ok : Nat → Prop} {w w' : World} {wb : Nat} {E N : List ByteArray} (h : WqS ok w wb E N) (hb : Below w.heap.size w w') : WqS ok w' wb E N := h.kpt (.of_below (S := []) hb) (by simp)
theorem WqS.nodup {ok : Nat → Prop} {w : World} {wb : Nat} {E N : List ByteArray} (h : WqS ok w wb E N) : N.Nodup := by
  obtain ⟨se, me, sn, mn, sl, H, h1, h2, h3, h4, h5, _⟩ := h
  exact h5.2.2.2.nodup
theorem WqS.oks {ok : Nat → Prop} {w : World} {wb : Nat} {E N : List ByteArray} (h : WqS ok w wb E N) : ∀ x ∈ N, okS x := by
  obtain ⟨se, me, sn, mn, sl, H, h1, h2, h3, h4, h5, _⟩ := h
  exact h5.2.2.2.oks

/-- behind the append: the Work's third field is set -/
theorem again_end_S {ok : Nat → Prop} {w2 w3 w4 : World} {wb se me sn mn : Nat} {sl v' : Value} {E N H : List ByteArray} {x : ByteArray} {o : Obj} (h1 : [wb, se, me, sn, mn].Nodup) (h2 : ∀ g, sl.ownBlock = some g → g ∉ [wb, se, me, sn, mn])
    (h3 : HwS w2 0 wb (.pointer (some ⟨se, 0, none⟩)) (.pointer (some ⟨sn, 0, none⟩)) sl H) (h4 : StS w2 0 se me E) (h5 : StS w2 0 sn mn N) (h7 : (H ++ [x]).Perm N) (h8 : ∀ b ∈ [wb, se, me, sn, mn], ok b) (h9 : ∀ g, sl.ownBlock = some g → ok g)
    (hnew : ∀ b, w2.heap.size ≤ b → ok b) (ho : OwnC cS 9 w3 0 v' (H ++ [x])) (hg : (w2.alloc o).grownBy w3 sl.ownBlock) (hl : v'.ownBlock = sl.ownBlock ∨ v'.ownBlock = some (w2.alloc o).heap.size) (hw4 : w4 = w3.setCell ⟨wb, 2, none⟩ v') :
    w3.cell? ⟨wb, 2, none⟩ = some sl ∧ w3.frozen? ⟨wb, 2, none⟩ = false ∧ wb < w3.heap.size ∧ HwS w4 0 wb (.pointer (some ⟨se, 0, none⟩)) (.pointer (some ⟨sn, 0, none⟩)) v' (H ++ [x]) ∧
    ∀ w5 H', HwS w5 0 wb (.pointer (some ⟨se, 0, none⟩)) (.pointer (some ⟨sn, 0, none⟩)) v' H' → H'.Perm (H ++ [x]) → Hp ltS (⟨#[]⟩ : ByteArray) H' → Kpt v'.ownBlock.toList w4 w5 → WqS ok w5 wb E N ∧ Kp ok w2 w5 := by
  have hlt : ∀ b ∈ [wb, se, me, sn, mn], b < w2.heap.size := by
    intro b hb
    have l1 := h3.cells.1
    have l2 := h4.lt
    have l3 := h5.lt
    simp only [List.mem_cons, List.not_mem_nil, or_false] at hb
    rcases hb with rfl | rfl | rfl | rfl | rfl
    · exact l1
    · exact l2.1
    · exact l2.2.1
    · exact l3.1
    · exact l3.2.1
  have hv : ∀ g, v'.ownBlock = some g → g ∉ [wb, se, me, sn, mn] := by
    intro g hgv
    rcases hl with e | e
    · exact h2 g (e ▸ hgv)
    · rw [e] at hgv
      cases hgv
      intro hb
      have := hlt _ hb
      simp at this
      omega
  have hvok : ∀ g, v'.ownBlock = some g → ok g := by
    intro g hgv
    rcases hl with e | e
    · exact h9 g (e ▸ hgv)
    · rw [e] at hgv
      cases hgv
      exact hnew _ (by simp)
  have k3 : Kpt sl.ownBlock.toList w2 w3 := (Kpt.alloc _ w2 o).trans (.of_grown (S := sl.ownBlock.toList) hg (fun g e => .inl (by rw [e]; simp))) (fun x hx => .inl hx)
  have hwb3 : w3.heap[wb]? = some (.cells #[.pointer (some ⟨se, 0, none⟩), .pointer (some ⟨sn, 0, none⟩), sl] 72 (0, 0)) := k3.block h3.1 (by
    intro hx
    have := h2 wb (by simpa using hx)
    simp at this)
  have k4 : Kpt [wb] w3 w4 := by rw [hw4]; exact Kpt.set _ _ _ _ _ (by simp)
  have hwb4 : w4.heap[wb]? = some (.cells #[.pointer (some ⟨se, 0, none⟩), .pointer (some ⟨sn, 0, none⟩), v'] 72 (0, 0)) := by
    rw [hw4, heap_setCell_same w3 wb 2 _ _ _ hwb3]; rfl
  have hvw : v'.ownBlock ≠ some wb := fun e => by have := hv wb e; simp at this
  have hH4 : HwS w4 0 wb (.pointer (some ⟨se, 0, none⟩)) (.pointer (some ⟨sn, 0, none⟩)) v' (H ++ [x]) := ⟨hwb4, ho.kpt k4 (fun g e hx => hvw (by rw [e, List.mem_singleton.1 hx])), hvw⟩
  refine ⟨by simp [World.cell?, hwb3], by simp [World.frozen?, hwb3], (Array.getElem?_eq_some_iff.1 hwb3).1, hH4, fun w5 H' g1 g2 g3 g4 => ?_⟩
  have nin : ∀ b ∈ [wb, se, me, sn, mn], b ∉ sl.ownBlock.toList ∧ b ∉ v'.ownBlock.toList := fun b hb => ⟨fun hx => h2 b (by simpa using hx) hb, fun hx => hv b (by simpa using hx) hb⟩
  have nw : ∀ b ∈ [se, me, sn, mn], b ∉ [wb] := by
    intro b hb he
    rw [List.mem_singleton] at he
    subst he
    exact (List.nodup_cons.1 h1).1 hb
  have keep : ∀ {s m : Nat} {L : List ByteArray}, StS w2 0 s m L → s ∈ [se, me, sn, mn] → m ∈ [se, me, sn, mn] → StS w5 0 s m L := fun hs m1 m2 =>
    ((hs.kpt k3 (nin _ (List.mem_cons_of_mem _ m1)).1 (nin _ (List.mem_cons_of_mem _ m2)).1).kpt k4 (nw _ m1) (nw _ m2)).kpt g4 (nin _ (List.mem_cons_of_mem _ m1)).2 (nin _ (List.mem_cons_of_mem _ m2)).2
  refine ⟨⟨se, me, sn, mn, v', H', h1, hv, g1, keep h4 (by simp) (by simp), keep h5 (by simp) (by simp), g3, g2.trans h7, h8, hvok⟩, ?_⟩
  refine ((Kp.of_kpt k3 (fun y hy _ => h9 y (by simpa using hy))).trans (Kp.of_kpt k4 (fun y hy _ => by rw [List.mem_singleton.1 hy]; exact h8 wb (by simp)))).trans (Kp.of_kpt g4 (fun y hy _ => hvok y (by simpa using hy)))

set_option maxHeartbeats 2000000 in
set_option maxRecDepth 100000 in
theorem again_S (ok : Nat → Prop) (wb : Nat) (E N : List ByteArray) (x : ByteArray) (w : World) (h : WqS ok w wb E N) (hx : okS x) (hE : E.length ≤ 10000) (hN : N.length ≤ 10000) (hnew : ∀ b, w.heap.size ≤ b → ok b) :
    Calls Try.prog 50 #[.pointer (some ⟨wb, 0, none⟩), .string x] w fun e w' => e = .returned (.tuple #[]) ∧ WqS ok w' wb (addS E x) (addS N x) ∧ Kp ok w w' := by
  obtain ⟨se, me, sn, mn, sl, H, h1, h2, h3, h4, h5, h6, h7, h8, h9⟩ := h
  have H1 := Lib.hid h1
  have H2 := Lib.hid h2
  have H6 := Lib.hid h6
  have H7 := Lib.hid h7
  have H8 := Lib.hid h8
  have H9 := Lib.hid h9
  have HN := Lib.hid hnew
  simp only [List.nodup_cons, List.mem_cons, List.not_mem_nil, or_false, not_or, List.nodup_nil, and_true, not_false_eq_true] at h1
  obtain ⟨⟨n1, n2, n3, n4⟩, ⟨n5, n6, n7⟩, ⟨n8, n9⟩, n10⟩ := h1
  obtain ⟨hlt, c0, c1, c2, f2⟩ := h3.cells
  clear h2 h6 h7 h8 h9 hnew
  go_enter Try.func50, Try.ntmps50
  go_wp2_with fail
  refine (add_S 0 se me E x w h4 hx (by omega)).mono ?_
  rintro e w1 ⟨rfl, hs1, k1⟩
  have h3' : HwS w1 0 wb (.pointer (some ⟨se, 0, none⟩)) (.pointer (some ⟨sn, 0, none⟩)) sl H := ⟨k1.block h3.1 (by simp; omega), h3.2.1.kpt k1 (fun g e hg => H2.out g e (by rw [List.mem_singleton.1 hg]; simp)), h3.2.2⟩
  have h5' : StS w1 0 sn mn N := h5.kpt k1 (by simp; omega) (by simp; omega)
  have K1 : Hid (Kp ok w w1) := Lib.hid (Kp.of_kpt k1 (fun y hy _ => H8.out y (by rw [List.mem_singleton.1 hy]; simp)))
  clear h3 h4 h5 c0 c1 c2 f2 hlt k1
  obtain ⟨hlt, c0, c1, c2, f2⟩ := h3'.cells
  go_wp2_with fail
  refine (add_S 0 sn mn N x w1 h5' hx (by omega)).mono ?_
  rintro e w2 ⟨rfl, hs2, k2⟩
  have h3 : HwS w2 0 wb (.pointer (some ⟨se, 0, none⟩)) (.pointer (some ⟨sn, 0, none⟩)) sl H := ⟨k2.block h3'.1 (by simp; omega), h3'.2.1.kpt k2 (fun g e hg => H2.out g e (by rw [List.mem_singleton.1 hg]; simp)), h3'.2.2⟩
  have h4 : StS w2 0 se me (addS E x) := hs1.kpt k2 (by simp; omega) (by simp; omega)
  have K2 : Hid (Kp ok w w2) := Lib.hid (K1.out.trans (Kp.of_kpt k2 (fun y hy _ => H8.out y (by rw [List.mem_singleton.1 hy]; simp))))
  clear h3' h5' c0 c1 c2 f2 hlt k2 hs1 K1
  by_cases hin : x ∈ N
  · have hr := hasB_in hin
    rw [hr]
    rw [addS_in hin] at hs2
    go_wp2
    go_end0
    exact ⟨rfl, by rw [addS_in hin]; exact ⟨se, me, sn, mn, sl, H, H1.out, H2.out, h3, h4, hs2, H6.out, H7.out, H8.out, H9.out⟩, K2.out⟩
  · have hr := hasB_out hin
    rw [hr]
    rw [addS_out hin] at hs2
    obtain ⟨hlt, c0, c1, c2, f2⟩ := h3.cells
    have ho := h3.2.1
    have hHl : H.length ≤ 10000 := by rw [H7.out.length_eq]; exact hN
    have H3 := Lib.hid h3
    have H4 := Lib.hid h4
    have H5 := Lib.hid hs2
    have HO := Lib.hid ((ho.alloc (.cells #[.string x] 9)))
    have HX := Lib.hid (rd_one (c := cS) (x := x) (heap_alloc_new w2 (.cells #[.string x] 9)) rfl)
    obtain ⟨a, n, cp, hsl⟩ := ho.slice
    subst hsl
    clear h3 h4 hs2 ho
    go_wp2_with (at_builtin; refine wp_appC infS (fun _ => rfl) rfl _ _ rfl 0 _ H rfl HO.out (fun _ => True) _ [x] rfl HX.out (by simp; omega) (by omega) ?_)
    intro v' w3 ho3 hg3 hl3
    obtain ⟨a', n', cp', hv'⟩ := ho3.slice
    subst hv'
    obtain ⟨w4, hw4⟩ : ∃ z, z = w3.setCell ⟨wb, 2, none⟩ (.slice a' n' cp') := ⟨_, rfl⟩
    obtain ⟨d2, g2, hlt3, hH4, hfin⟩ := again_end_S (ok := ok) (x := x) H1.out H2.out H3.out H4.out H5.out (H7.out.append (List.Perm.refl _)) H8.out H9.out (fun b hb => HN.out b (Nat.le_trans K2.out.size hb)) ho3 hg3 (by rw [World.size_alloc]; exact hl3) hw4
    have HF := Lib.hid hfin
    have HH := Lib.hid hH4
    clear hfin hH4 ho3 hg3 hl3 c0 c1 c2 f2 H3 H4 H5 HO HX H1 H2 H8 H9
    go_wp2_with fail
    rw [← hw4]
    clear hw4 d2 g2 hlt3
    refine (rise_S 0 wb _ _ _ (H ++ [x]) (⟨#[]⟩ : ByteArray) w4 HH.out (by have := H6.out.snoc x; simpa using this) (by simp) (by simp; omega)).mono ?_
    rintro e w5 ⟨rfl, H', g1, g2, g3, g4⟩
    obtain ⟨q1, q2⟩ := HF.out w5 H' g1 g2 g3 g4
    have Q1 := Lib.hid q1
    have Q2 := Lib.hid (K2.out.trans q2)
    clear q1 q2 g1 g2 g3 g4 HF HH
    go_wp2
    go_end0
    exact ⟨rfl, by rw [addS_out hin]; exact Q1.out, Q2.out⟩

set_option maxHeartbeats 2000000 in
set_option maxRecDepth 100000 in
theorem put_S (ok : Nat → Prop) (wb : Nat) (E N : List ByteArray) (x : ByteArray) (w : World) (h : WqS ok w wb E N) (hx : okS x) (hE : E.length ≤ 10000) (hN : N.length ≤ 10000) (hnew : ∀ b, w.heap.size ≤ b → ok b) :
    Calls Try.prog 40 #[.pointer (some ⟨wb, 0, none⟩), .string x] w fun e w' => e = .returned (.bool (!hasB E x)) ∧ WqS ok w' wb (addS E x) (putN E N x) ∧ Kp ok w w' := by
  have HW := Lib.hid h
  obtain ⟨se, me, sn, mn, sl, H, h1, h2, h3, h4, h5, h6, h7, h8, h9⟩ := h
  obtain ⟨hlt, c0, c1, c2, f2⟩ := h3.cells
  have HN := Lib.hid hnew
  clear h1 h2 h3 h5 h6 h7 h8 h9 hnew
  go_enter Try.func40, Try.ntmps40
  go_wp2_with fail
  refine (has_S 0 se me E x w h4 hx).mono ?_
  rintro e w1 ⟨rfl, hb⟩
  have HB := Lib.hid hb
  clear hb h4 c0 c1 c2 f2 hlt
  by_cases hin : x ∈ E
  · have hr := hasB_in hin
    rw [hr]
    go_wp2
    go_ret
    exact ⟨by rw [hr]; rfl, by rw [addS_in hin, putN_in hin]; exact HW.out.bel HB.out, Kp.of_kpt (.of_below (S := []) HB.out) (by simp)⟩
  · have hr := hasB_out hin
    rw [hr]
    go_wp2_with fail
    refine (again_S ok wb E N x w1 (HW.out.bel HB.out) hx hE hN (fun b hb => HN.out b (Nat.le_trans HB.out.size hb))).mono ?_
    rintro e w2 ⟨rfl, q1, q2⟩
    have Q1 := Lib.hid q1
    have Q2 := Lib.hid q2
    clear q1 q2
    go_wp2
    go_ret
    exact ⟨by rw [hr]; rfl, by rw [putN_out hin]; exact Q1.out, (Kp.of_kpt (.of_below (S := []) HB.out) (by simp)).trans Q2.out⟩
end Go.Proofs.Ytejjmbfbjagifaa.S
