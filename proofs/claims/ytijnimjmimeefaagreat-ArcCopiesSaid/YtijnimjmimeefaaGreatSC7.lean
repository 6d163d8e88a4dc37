/- Texts that the proof is made of, joined. No condition. -/
import Derived.Test.YtijnimjmimeefaaGreatSC6
import Derived.Test.YtijnimjmimeefaaGreatSCH
set_option linter.unusedVariables false
set_option linter.unusedSimpArgs false
set_option maxRecDepth 100000
set_option maxHeartbeats 16000000
namespace Go.Proofs.YtijnimjmimeefaaGreat.A
open Go.RowKit Go.Proofs.YtijnimjmimeefaaGreat.D Go.Proofs.YtijnimjmimeefaaGreat.O
theorem z7c {w : World} {b : Nat} {v0 v1 v2 v3 v4 v5 v6 : Value} (h : CellsAt w b 0 [v0, v1, v2, v3, v4, v5, v6]) : w.cell? ⟨b, 0, none⟩ = some v0 /\ w.cell? ⟨b, 1, none⟩ = some v1 /\ w.cell? ⟨b, 2, none⟩ = some v2 /\ w.cell? ⟨b, 3, none⟩ = some v3 /\ w.cell? ⟨b, 4, none⟩ = some v4 /\ w.cell? ⟨b, 5, none⟩ = some v5 /\ w.cell? ⟨b, 6, none⟩ = some v6 := by
 have := CellsAt.seven h
 simpa using this
def TC (tb : Nat) (w : World) : Prop := tb < w.heap.size /\ CellsAt w tb 0 [.int .i64 4, .int .i32 0, .int .i64 3, .string ⟨#[]⟩, .string ⟨#[]⟩, .string ⟨#[]⟩, .string ⟨#[]⟩]
theorem TC.next {tb : Nat} {w w' : World} (h : TC tb w) (hb : Below w.heap.size w w') : TC tb w' := ⟨Nat.lt_of_lt_of_le h.1 hb.size, h.2.below hb h.1⟩
theorem TC.same {tb : Nat} {w w' : World} (h : TC tb w) (hs : w.heap.size <= w'.heap.size) (hk : w'.heap[tb]? = w.heap[tb]?) : TC tb w' := ⟨Nat.lt_of_lt_of_le h.1 hs, fun j u hu => by
 rw [World.cell?_of_block (w := w) (a := ⟨tb, 0 + j, none⟩) hk]; exact h.2 j u hu⟩
theorem TC.made (w : World) : TC w.heap.size (w.alloc (.cells #[.int .i64 4, .int .i32 0, .int .i64 3, .string ⟨#[]⟩, .string ⟨#[]⟩, .string ⟨#[]⟩, .string ⟨#[]⟩] 61)) :=
 ⟨by simp, cells_next (w := w) (vs := [.int .i64 4, .int .i32 0, .int .i64 3, .string ⟨#[]⟩, .string ⟨#[]⟩, .string ⟨#[]⟩, .string ⟨#[]⟩]) 61 rfl⟩
def CV (t i : Nat) (v : Value) (w : World) : Prop := t < w.heap.size /\ w.cell? ⟨t, i, none⟩ = some v
theorem CV.next {t i : Nat} {v : Value} {w w' : World} (h : CV t i v w) (hb : Below w.heap.size w w') : CV t i v w' := ⟨Nat.lt_of_lt_of_le h.1 hb.size, (hb.cell (p := ⟨t, i, none⟩) h.1).trans h.2⟩
theorem CV.same {t i : Nat} {v : Value} {w w' : World} (h : CV t i v w) (hs : w.heap.size <= w'.heap.size) (hk : w'.heap[t]? = w.heap[t]?) : CV t i v w' := ⟨Nat.lt_of_lt_of_le h.1 hs, by
 rw [World.cell?_of_block (w := w) (a := ⟨t, i, none⟩) hk]; exact h.2⟩
theorem CV.made {w : World} {cs : Array Value} {T : TypeId} {i : Nat} {v : Value} (h : cs[i]? = some v) : CV w.heap.size i v (w.alloc (.cells cs T)) := by
 have h1 : (w.alloc (.cells cs T)).heap[w.heap.size]? = some (.cells cs T (0, 0)) := by simp only [World.alloc, Array.getElem?_push_size]
 refine ⟨by simp, ?_⟩
 simp only [World.cell?, h1]
 exact h
theorem below_al (w : World) (o : Obj) : Below w.heap.size w (w.alloc o) := (Below.refl _ _).alloc (Nat.le_refl _) _
theorem below_dr (w : World) : Below w.heap.size w w.drew := (Below.refl _ _).drew
theorem wpAnyH_and {P : Program} {ops : Array Oper} {Q : Exit -> Act -> World -> Prop} {md : Region.Mode} {S T : World -> Prop} : ∀ (fuel : Nat) (listed : Array Bool) (a : Act) (w : World),
  wpAnyH P md ops Q (fun w => S w /\ T w) fuel listed a w -> wpAnyH P md ops Q S fuel listed a w
 | 0, _, _, _, h => h
 | fuel + 1, _, _, _, h => ⟨h.1, fun i hi => wpOp_mono (fun a' w' h' => ⟨h'.1.1, wpAnyH_and fuel _ a' w' h'.2⟩) (h.2 i hi)⟩
theorem num_y (x n : Int) (w : World) (hx : x = n) (hn : -2147483648 <= n /\ n <= 2147483647) : Calls Tryz.prog 62 #[.int .i64 x] w fun e w' => e = .returned (.agg #[.int .i64 1, .int .i32 n, .int .i64 0, .string ⟨#[]⟩, .string ⟨#[]⟩, .string ⟨#[]⟩, .string ⟨#[]⟩]) /\ Below w.heap.size w w' := by
 subst hx
 exact num_x x w hn
def Bt (B bb : Nat) (ts : List Nat) (st : BS) (w0 w : World) : Prop :=
 (∃ vl vh, BdP w B bb vl vh st /\ ∀ t ∈ ts, t < w.heap.size /\ t ≠ bb /\ vl.ownBlock ≠ some t /\ vh.ownBlock ≠ some t) /\ Below B w0 w /\ B <= w.heap.size
theorem Bt.bs {B bb : Nat} {ts : List Nat} {st : BS} {w0 w : World} (h : Bt B bb ts st w0 w) : Bs B bb st w0 w := by
 obtain ⟨⟨vl, vh, h, -⟩, h2, h3⟩ := h
 exact ⟨⟨vl, vh, h⟩, h2, h3⟩
theorem Bs.bt {B bb : Nat} {st : BS} {w0 w : World} (h : Bs B bb st w0 w) : Bt B bb [] st w0 w := by
 obtain ⟨⟨vl, vh, h⟩, h2, h3⟩ := h
 exact ⟨⟨vl, vh, h, by simp⟩, h2, h3⟩
theorem Bt.next {B bb : Nat} {ts : List Nat} {st : BS} {w0 w w' : World} (h : Bt B bb ts st w0 w) (hb : Below w.heap.size w w') : Bt B bb ts st w0 w' := by
 obtain ⟨⟨vl, vh, h, ht⟩, h2, h3⟩ := h
 exact ⟨⟨vl, vh, h.below hb, fun t m => ⟨Nat.lt_of_lt_of_le (ht t m).1 hb.size, (ht t m).2⟩⟩, h2.trans (hb.mono h3), Nat.le_trans h3 hb.size⟩
theorem Bt.lit {B bb : Nat} {ts : List Nat} {st : BS} {w0 w : World} (h : Bt B bb ts st w0 w) (o : Obj) : Bt B bb (w.heap.size :: ts) st w0 (w.alloc o) := by
 have h' := h.next (below_al w o)
 obtain ⟨⟨vl, vh, h, ht⟩, h2, h3⟩ := h
 refine ⟨⟨vl, vh, h.below (below_al w o), fun t m => ?_⟩, h'.2.1, h'.2.2⟩
 rcases List.mem_cons.1 m with rfl | m
 ·refine ⟨by simp, fun e => ?_, fun e => ?_, fun e => ?_⟩
  ·have := h.lt; omega
  ·have := (h.2.2.1.lt _ e).2; omega
  ·have := (h.2.2.2.1.lt _ e).2; omega
 ·obtain ⟨a, b⟩ := ht t m
  exact ⟨by simp; omega, b⟩
theorem setL_p {w w1 : World} {B bb : Nat} {vl vh v' : Value} {st : BS} {L : List Ins} (h : BdP w B bb vl vh st) (hB : B <= w.heap.size) (ho : OwnX 7 61 (sP insC) w1 B v' L) (hg : w.grownBy w1 vl.ownBlock) (hl : v'.ownBlock = vl.ownBlock ∨ v'.ownBlock = some w.heap.size) :
  BdP (w1.setCell ⟨bb, 0, none⟩ v') B bb v' vh (L, st.2) /\ ∀ t, t < w.heap.size -> t ≠ bb -> vl.ownBlock ≠ some t -> (w1.setCell ⟨bb, 0, none⟩ v').heap[t]? = w.heap[t]? := by
 have hlt := h.lt
 obtain ⟨h1, h2, h3, h4, h5, h6, h7⟩ := h
 have hw1 : w1.heap[bb]? = some (.cells #[vl, vh] 130 (0, 0)) := by rw [hg.block bb hlt (fun e => h5 e.symm)]; exact h1
 have k1 : Kpt vl.ownBlock.toList w w1 := .of_grown hg (fun g e => .inl (by rw [e]; simp))
 have k2 : Kpt [bb] w1 (w1.setCell ⟨bb, 0, none⟩ v') := Kpt.set _ _ _ _ _ (by simp)
 have hne : v'.ownBlock ≠ some bb := by
  rcases hl with e | e
  ·rw [e]; exact h5
  ·rw [e]; simp only [ne_eq, Option.some.injEq]; omega
 refine ⟨⟨?_, h2, ho.kptS k2 (fun g e => by simp; rintro rfl; exact hne e), (h4.kptS k1 (fun g e => by simp; intro e'; exact h7 g e' e)).kptS k2 (fun g e => by simp; rintro rfl; exact h6 e), hne, h6, fun g e => ?_⟩, fun t ht hb ho => ?_⟩
 ·rw [heap_setCell_same w1 bb 0 _ _ _ hw1]; rfl
 ·rcases hl with e' | e'
  ·exact h7 g (e' ▸ e)
  ·rw [e'] at e
   cases e
   intro e2
   have := (h4.lt _ e2).2
   omega
 ·rw [k2.2 t (Nat.lt_of_lt_of_le ht hg.size) (by simpa using hb), hg.block t ht (fun e => ho e.symm)]
theorem add_t {B bb : Nat} {ts : List Nat} {st : BS} {w0 w : World} (H : Bt B bb ts st w0 w) (ys : List Ins) (cs : Array Value) (hcs : cs.toList = ys.flatMap insC) (n : Nat) (hn : n = ys.length) (hl : st.1.length + ys.length <= 1000000) :
  Calls Tryz.prog 61 #[.pointer (some ⟨bb, 0, none⟩), .slice (some ⟨w.heap.size, 0, none⟩) n n] (w.alloc (.cells cs 61)) fun e w' => e = .returned (.tuple #[]) /\ Bt B bb ts (bAdd ys st) w0 w' /\
   (w.alloc (.cells cs 61)).heap.size <= w'.heap.size /\ ∀ t ∈ ts, w'.heap[t]? = (w.alloc (.cells cs 61)).heap[t]? := by
 subst hn
 obtain ⟨⟨vl, vh, h, ht⟩, hb0, hB0⟩ := H.next (below_al w (.cells cs 61))
 have HR := hid (rdX_lits insC_len w ys cs 61 hcs)
 obtain ⟨g, hg⟩ : ∃ g, g = w.heap.size := ⟨_, rfl⟩
 obtain ⟨W, hW⟩ : ∃ x, x = w.alloc (.cells cs 61) := ⟨_, rfl⟩
 rw [<- hW] at h ht hb0 hB0 HR ⊢
 rw [<- hg] at HR ⊢
 obtain ⟨q1, c0, c1, f0, f1⟩ := h.cells
 have HO := hid h.2.2.1
 have HH := hid h
 have HTT := hid ht
 have HB0 := hid hb0
 clear h hW hg H ht hb0 hcs
 go_enter Tryz.func61, Tryz.ntmps61
 go_wp2_with (at_builtin; refine wp_appM inf_ins shape_ins rfl _ _ rfl B vl st.1 rfl HO.out g 0 ys.length ys.length ys rfl HR.out hl hB0 ?_)
 intro v2 w2 ho2 hg2 hl2
 obtain ⟨d0, d1, d2, d3, d4⟩ := HH.out.setL hB0 ho2 hg2 hl2
 have HP := hid (setL_p HH.out hB0 ho2 hg2 hl2)
 have HL2 := hid hl2
 obtain ⟨p2, n2, cc2, hv2⟩ := ho2.slice
 subst hv2
 clear ho2 hg2 hl2 d3
 go_wp2_with fail
 refine bodyPost_end (results_none rfl _ _ _) rfl ⟨rfl, ⟨⟨_, _, HP.out.1, fun t m => ?_⟩, HB0.out.trans d4, Nat.le_trans hB0 d4.size⟩, d4.size, fun t m => ?_⟩
 ·obtain ⟨a1, a2, a3, a4⟩ := HTT.out t m
  refine ⟨Nat.lt_of_lt_of_le a1 d4.size, a2, ?_, a4⟩
  rcases HL2.out with e | e
  ·rw [e]; exact a3
  ·rw [e]; simp; omega
 ·obtain ⟨a1, a2, a3, a4⟩ := HTT.out t m
  exact HP.out.2 t a1 a2 a3
def SnN (k : Nat) (z : Int) : Prop := ∀ {B bb : Nat} {st : BS} {w0 w : World} (_ : Bs B bb st w0 w) (n : Nat) (_ : n < 256) (_ : st.1.length <= 50000) (_ : st.2.length <= 50000),
 Calls Tryz.prog 64 #[.pointer (some ⟨bb, 0, none⟩), .int .u8 z, .int .u8 (n : Int)] w fun e w' => e = .returned (.bool true) /\ Bs B bb (snip k (n : Int) st) w0 w'
def SnO (k : Nat) (z : Int) : Prop := ∀ {B bb : Nat} {st : BS} {w0 w : World} (_ : Bs B bb st w0 w) (n : Nat) (_ : n < 256) (_ : st.1.length <= 50000) (_ : st.2.length <= 50000),
 Calls Tryz.prog 65 #[.pointer (some ⟨bb, 0, none⟩), .int .u8 z, .int .u8 (n : Int)] w fun e w' => e = .returned (.tuple #[]) /\ Bs B bb (snip k (n : Int) st) w0 w'
theorem snip_0 : SnN 0 0 := by
 intro B bb st w0 w H n hn hl hl2
 obtain ⟨p, cap, q0, c0⟩ := H.len
 have HB := hid H
 clear H
 have HE : Hid (snip 0 (n : Int) st = bAdd [iAt 4 0, iOne 18, iOne 41] st) := hid (rfl)
 go_enter Tryz.func64, Tryz.ntmps64
 go_wp2_with ((first | (go_at_call 31; refine (one_x _ _).mono ?_) | (go_at_call 32; refine (at_x _ _ _).mono ?_)); rintro e w' ⟨rfl, hb⟩; (first | replace HB := hid (HB.out.next hb) | replace HB := hid ((HB.out.lit _).next hb)); clear hb)
 refine (add_s HB.out [iAt 4 0, iOne 18, iOne 41] _ rfl _ rfl (by simp [bAdd, bTry]; omega)).mono ?_
 rintro e w' ⟨rfl, H1⟩
 replace HB := hid H1
 clear H1 c0 q0
 go_wp2_with fail
 go_ret
 exact ⟨rfl, by rw [HE.out]; exact HB.out⟩
theorem snip_1 : SnN 1 1 := by
 intro B bb st w0 w H n hn hl hl2
 obtain ⟨p, cap, q0, c0⟩ := H.len
 have HB := hid H
 clear H
 have HE : Hid (snip 1 (n : Int) st = bAdd [iAt 4 0, iNum ((n : Int) - 100), iOne 8, iAt 5 0] st) := hid (rfl)
 go_enter Tryz.func64, Tryz.ntmps64
 go_wp2_with ((first | (go_at_call 31; refine (one_x _ _).mono ?_) | (go_at_call 32; refine (at_x _ _ _).mono ?_) | (go_at_call 62; refine (num_x _ _ (by omega)).mono ?_)); rintro e w' ⟨rfl, hb⟩; (first | replace HB := hid (HB.out.next hb) | replace HB := hid ((HB.out.lit _).next hb)); clear hb)
 refine (add_s HB.out [iAt 4 0, iNum ((n : Int) - 100), iOne 8, iAt 5 0] _ rfl _ rfl (by simp [bAdd, bTry]; omega)).mono ?_
 rintro e w' ⟨rfl, H1⟩
 replace HB := hid H1
 clear H1 c0 q0
 go_wp2_with fail
 go_ret
 exact ⟨rfl, by rw [HE.out]; exact HB.out⟩
theorem snip_2 : SnN 2 2 := by
 intro B bb st w0 w H n hn hl hl2
 obtain ⟨p, cap, q0, c0⟩ := H.len
 have HB := hid H
 clear H
 have HE : Hid (snip 2 (n : Int) st = bAdd [iOne 42, iAt 5 0] st) := hid (rfl)
 go_enter Tryz.func64, Tryz.ntmps64
 go_wp2_with ((first | (go_at_call 31; refine (one_x _ _).mono ?_) | (go_at_call 32; refine (at_x _ _ _).mono ?_)); rintro e w' ⟨rfl, hb⟩; (first | replace HB := hid (HB.out.next hb) | replace HB := hid ((HB.out.lit _).next hb)); clear hb)
 refine (add_s HB.out [iOne 42, iAt 5 0] _ rfl _ rfl (by simp [bAdd, bTry]; omega)).mono ?_
 rintro e w' ⟨rfl, H1⟩
 replace HB := hid H1
 clear H1 c0 q0
 go_wp2_with fail
 go_ret
 exact ⟨rfl, by rw [HE.out]; exact HB.out⟩
theorem snip_3 : SnN 3 3 := by
 intro B bb st w0 w H n hn hl hl2
 obtain ⟨p, cap, q0, c0⟩ := H.len
 have HB := hid H
 clear H
 have HE : Hid (snip 3 (n : Int) st = bAdd [iAt 4 1, iStr (wordT (n : Int)), iOne 16, iAt 5 1] st) := hid (rfl)
 go_enter Tryz.func64, Tryz.ntmps64
 go_wp2_with ((first | (go_at_call 31; refine (one_x _ _).mono ?_) | (go_at_call 32; refine (at_x _ _ _).mono ?_) | (go_at_call 63; refine (str_x _ _).mono ?_) | (go_at_call 108; refine (word_v _ _ hn).mono ?_)); rintro e w' ⟨rfl, hb⟩; (first | replace HB := hid (HB.out.next hb) | replace HB := hid ((HB.out.lit _).next hb)); clear hb)
 refine (add_s HB.out [iAt 4 1, iStr (wordT (n : Int)), iOne 16, iAt 5 1] _ rfl _ rfl (by simp [bAdd, bTry]; omega)).mono ?_
 rintro e w' ⟨rfl, H1⟩
 replace HB := hid H1
 clear H1 c0 q0
 go_wp2_with fail
 go_ret
 exact ⟨rfl, by rw [HE.out]; exact HB.out⟩
theorem snip_4 : SnN 4 4 := by
 intro B bb st w0 w H n hn hl hl2
 obtain ⟨p, cap, q0, c0⟩ := H.len
 have HB := hid H
 clear H
 have HE : Hid (snip 4 (n : Int) st = bAdd [iAt 4 1, iOne 41] st) := hid (rfl)
 go_enter Tryz.func64, Tryz.ntmps64
 go_wp2_with ((first | (go_at_call 31; refine (one_x _ _).mono ?_) | (go_at_call 32; refine (at_x _ _ _).mono ?_)); rintro e w' ⟨rfl, hb⟩; (first | replace HB := hid (HB.out.next hb) | replace HB := hid ((HB.out.lit _).next hb)); clear hb)
 refine (add_s HB.out [iAt 4 1, iOne 41] _ rfl _ rfl (by simp [bAdd, bTry]; omega)).mono ?_
 rintro e w' ⟨rfl, H1⟩
 replace HB := hid H1
 clear H1 c0 q0
 go_wp2_with fail
 go_ret
 exact ⟨rfl, by rw [HE.out]; exact HB.out⟩
theorem snip_5 : SnN 5 5 := by
 intro B bb st w0 w H n hn hl hl2
 obtain ⟨p, cap, q0, c0⟩ := H.len
 have HB := hid H
 clear H
 have HE : Hid (snip 5 (n : Int) st = bAdd [iAt 4 2, iNum ((n : Int) % 5 - 1), iAt 4 0, iOne 24] st) := hid (rfl)
 go_enter Tryz.func64, Tryz.ntmps64
 go_wp2_with ((first | (go_at_call 31; refine (one_x _ _).mono ?_) | (go_at_call 32; refine (at_x _ _ _).mono ?_) | (go_at_call 62; refine (num_x _ _ (by omega)).mono ?_)); rintro e w' ⟨rfl, hb⟩; (first | replace HB := hid (HB.out.next hb) | replace HB := hid ((HB.out.lit _).next hb)); clear hb)
 refine (add_s HB.out [iAt 4 2, iNum ((n : Int) % 5 - 1), iAt 4 0, iOne 24] _ rfl _ rfl (by simp [bAdd, bTry]; omega)).mono ?_
 rintro e w' ⟨rfl, H1⟩
 replace HB := hid H1
 clear H1 c0 q0
 go_wp2_with fail
 go_ret
 exact ⟨rfl, by rw [HE.out]; exact HB.out⟩
theorem snip_6 : SnN 6 6 := by
 intro B bb st w0 w H n hn hl hl2
 obtain ⟨p, cap, q0, c0⟩ := H.len
 have HB := hid H
 clear H
 have HE : Hid (snip 6 (n : Int) st = bAdd [iAt 4 2, iNum ((n : Int) % 4), iOne 23, iAt 5 0] st) := hid (rfl)
 go_enter Tryz.func64, Tryz.ntmps64
 go_wp2_with ((first | (go_at_call 31; refine (one_x _ _).mono ?_) | (go_at_call 32; refine (at_x _ _ _).mono ?_) | (go_at_call 62; refine (num_x _ _ (by omega)).mono ?_)); rintro e w' ⟨rfl, hb⟩; (first | replace HB := hid (HB.out.next hb) | replace HB := hid ((HB.out.lit _).next hb)); clear hb)
 refine (add_s HB.out [iAt 4 2, iNum ((n : Int) % 4), iOne 23, iAt 5 0] _ rfl _ rfl (by simp [bAdd, bTry]; omega)).mono ?_
 rintro e w' ⟨rfl, H1⟩
 replace HB := hid H1
 clear H1 c0 q0
 go_wp2_with fail
 go_ret
 exact ⟨rfl, by rw [HE.out]; exact HB.out⟩
theorem snip_7 : SnN 7 7 := by
 intro B bb st w0 w H n hn hl hl2
 obtain ⟨p, cap, q0, c0⟩ := H.len
 have HB := hid H
 clear H
 have hm0 : n / 4 % 2 = 0 ∨ n / 4 % 2 = 1 := by omega
 rcases hm0 with h0 | h0
 ·have hi0 : (n : Int) / 4 % 2 = 0 := by omega
  have hs0 : selT ((n : Int) / 4) 2 [⟨#[90, 101, 114, 111, 70, 97, 117, 108, 116]⟩, ⟨#[70, 97, 117, 108, 116]⟩] = ⟨#[90, 101, 114, 111, 70, 97, 117, 108, 116]⟩ := by unfold selT; rw [hi0]; rfl
  have hq : 0 <= (n : Int).tmod 4 /\ (n : Int).tmod 4 < 4 := by rw [Int.tmod_eq_emod_of_nonneg (Int.natCast_nonneg n)]; omega
  have hcv : (#[.int .i64 10, .int .i64 11, .int .i64 12, .int .i64 9] : Array Value)[((n : Int).tmod 4).toNat]? = some (.int .i64 (selI (n : Int) 4 [10, 11, 12, 9])) := by
   rw [Int.tmod_eq_emod_of_nonneg (Int.natCast_nonneg n)]; unfold selI
   obtain ⟨j, hj, h⟩ : ∃ j : Nat, j < 4 /\ (n : Int) % 4 = (j : Int) := ⟨n % 4, by omega, by omega⟩
   rw [h]
   match j, hj with
   | 0, _ => rfl
   | 1, _ => rfl
   | 2, _ => rfl
   | 3, _ => rfl
  have HCV := hid hcv
  clear hcv
  have HE : Hid (snip 7 (n : Int) st = bTry st.1.length ⟨#[90, 101, 114, 111, 70, 97, 117, 108, 116]⟩ ⟨#[122, 101, 114, 111]⟩ (bAdd [iAt 4 0, iNum ((n : Int) % 7 - 3), iOne (selI (n : Int) 4 [10, 11, 12, 9]), iAt 5 0] st)) := hid (by simp only [snip, hs0])
  clear hs0
  go_enter Tryz.func64, Tryz.ntmps64
  go_wp2_with fail
  replace HB := hid HB.out.bt
  clear c0 q0
  replace HB := hid (HB.out.next (below_dr w))
  refine wp_region_held_drew (S := fun _ => True) (by kernel_rfl) trivial (fun hh => ?_)
  refine tkA 0 _ hh ?_
  try go_frame
  refine tkA 2 _ hh ?_
  try go_frame
  refine tkA 3 _ hh ?_
  try go_frame
  refine tkA 4 _ hh ?_
  try go_frame
  refine tkA 5 _ hh ?_
  try go_frame
  refine tkA 8 _ hh ?_
  try go_frame
  refine tkA 9 _ hh ?_
  try go_frame
  refine rdH [1, 7] ?_
  refine rcH (fun K hK => ?_) ?_
  ·clear hh
   go_simp
   refine (at_x _ _ _).mono ?_
   rintro e x1 ⟨rfl, hb⟩
   replace HB := hid (HB.out.next hb)
   clear hb
   refine hK.out _ _ trivial (fun hh => ?_)
   clear hK K
   try go_frame
   refine rdH [6, 7] ?_
   refine rcH (fun K hK => ?_) ?_
   ·clear hh
    go_simp
    refine (num_y _ (n % 7 - 3) _ (by first | rfl | (simp only [IntKind.wrap_i64, Int.tmod_eq_emod_of_nonneg (Int.natCast_nonneg n)]; omega)) (by omega)).mono ?_
    rintro e x6 ⟨rfl, hb⟩
    replace HB := hid (HB.out.next hb)
    clear hb
    refine hK.out _ _ trivial (fun hh => ?_)
    clear hK K
    try go_frame
    refine rdH [7] ?_
    refine rcH (fun K hK => ?_) AllReadyH.nil
    clear hh
    go_simp
    replace HB := hid (HB.out.lit (.cells #[.int .i64 10, .int .i64 11, .int .i64 12, .int .i64 9] 3))
    have HV := hid (CV.made (w := x6) (cs := #[.int .i64 10, .int .i64 11, .int .i64 12, .int .i64 9]) (T := 3) (i := ((n : Int).tmod 4).toNat) (v := .int .i64 (selI (n : Int) 4 [10, 11, 12, 9])) HCV.out)
    refine hK.out _ _ trivial (fun hh => ?_)
    clear hK K
    try go_frame
    refine tkA 10 _ hh ?_
    try go_frame
    refine wpAnyH_and (T := fun W => W.cell? ⟨x6.heap.size, ((n : Int).tmod 4).toNat, none⟩ = some (.int .i64 (selI (n : Int) 4 [10, 11, 12, 9]))) _ _ _ _ ?_
    replace hh := And.intro hh (HV.out.2)
    refine tkH 11 ?_ (fun W hSw => ?_) hh ?_
    rotate_left 1
    ·(have hT := hSw.2; clear hSw; first | (go_simp; done) | (go_simp; with_reducible rfl))
    try go_frame
    refine rdH [12] ?_
    refine rcH (fun K hK => ?_) AllReadyH.nil
    clear hh
    go_simp
    refine (one_x _ _).mono ?_
    rintro e x12 ⟨rfl, hb⟩
    replace HB := hid (HB.out.next hb)
    replace HV := hid (HV.out.next hb)
    clear hb
    refine hK.out _ _ ⟨trivial, HV.out.2⟩ (fun hh => ?_)
    clear hK K
    try go_frame
    refine rdH [13] ?_
    refine rcH (fun K hK => ?_) AllReadyH.nil
    clear hh
    go_simp
    refine (at_x _ _ _).mono ?_
    rintro e x13 ⟨rfl, hb⟩
    replace HB := hid (HB.out.next hb)
    replace HV := hid (HV.out.next hb)
    clear hb
    refine hK.out _ _ ⟨trivial, HV.out.2⟩ (fun hh => ?_)
    clear hK K
    try go_frame
    refine rdH [14] ?_
    refine rcH (fun K hK => ?_) AllReadyH.nil
    clear hh
    go_simp
    refine hK.out _ _ ⟨trivial, (HV.out.next (below_al _ _)).2⟩ (fun hh => ?_)
    clear hK K
    try go_frame
    refine rdH [15] ?_
    refine rcH (fun K hK => ?_) AllReadyH.nil
    clear hh
    go_simp
    refine (add_t HB.out [iAt 4 0, iNum ((n : Int) % 7 - 3), iOne (selI (n : Int) 4 [10, 11, 12, 9]), iAt 5 0] _ rfl _ rfl (by simp [bAdd, bTry]; omega)).mono ?_
    rintro e w' ⟨rfl, H1, H2, H3⟩
    replace HV := hid ((HV.out.next (below_al _ _)).same H2 (H3 _ (by simp)))
    replace HB := hid H1
    clear H1 H2 H3
    refine hK.out _ _ ⟨trivial, HV.out.2⟩ (fun hh => ?_)
    clear hK K
    try go_frame
    refine wpAnyH_done (by kernel_rfl) ?_ _
    replace HB := hid HB.out.bs
    clear HV
    go_wp2_with (fail)
    refine (try_s (HB.out.lit _) st.1.length ⟨#[90, 101, 114, 111, 70, 97, 117, 108, 116]⟩ ⟨#[122, 101, 114, 111]⟩ (by omega) (by simp [bAdd, bTry]; omega) (by simp [bAdd, bTry]; omega)).mono ?_
    rintro e w' ⟨rfl, H1⟩
    replace HB := hid H1
    clear H1
    go_wp2_with fail
    go_ret
    exact ⟨rfl, by rw [HE.out]; exact HB.out⟩
   refine rcH (fun K hK => ?_) AllReadyH.nil
   clear hh
   go_simp
   replace HB := hid (HB.out.lit (.cells #[.int .i64 10, .int .i64 11, .int .i64 12, .int .i64 9] 3))
   have HV := hid (CV.made (w := x1) (cs := #[.int .i64 10, .int .i64 11, .int .i64 12, .int .i64 9]) (T := 3) (i := ((n : Int).tmod 4).toNat) (v := .int .i64 (selI (n : Int) 4 [10, 11, 12, 9])) HCV.out)
   refine hK.out _ _ trivial (fun hh => ?_)
   clear hK K
   try go_frame
   refine tkA 10 _ hh ?_
   try go_frame
   refine wpAnyH_and (T := fun W => W.cell? ⟨x1.heap.size, ((n : Int).tmod 4).toNat, none⟩ = some (.int .i64 (selI (n : Int) 4 [10, 11, 12, 9]))) _ _ _ _ ?_
   replace hh := And.intro hh (HV.out.2)
   refine tkH 11 ?_ (fun W hSw => ?_) hh ?_
   rotate_left 1
   ·(have hT := hSw.2; clear hSw; first | (go_simp; done) | (go_simp; with_reducible rfl))
   try go_frame
   refine rdH [6] ?_
   refine rcH (fun K hK => ?_) AllReadyH.nil
   clear hh
   go_simp
   refine (num_y _ (n % 7 - 3) _ (by first | rfl | (simp only [IntKind.wrap_i64, Int.tmod_eq_emod_of_nonneg (Int.natCast_nonneg n)]; omega)) (by omega)).mono ?_
   rintro e x6 ⟨rfl, hb⟩
   replace HB := hid (HB.out.next hb)
   replace HV := hid (HV.out.next hb)
   clear hb
   refine hK.out _ _ ⟨trivial, HV.out.2⟩ (fun hh => ?_)
   clear hK K
   try go_frame
   refine rdH [12] ?_
   refine rcH (fun K hK => ?_) AllReadyH.nil
   clear hh
   go_simp
   refine (one_x _ _).mono ?_
   rintro e x12 ⟨rfl, hb⟩
   replace HB := hid (HB.out.next hb)
   replace HV := hid (HV.out.next hb)
   clear hb
   refine hK.out _ _ ⟨trivial, HV.out.2⟩ (fun hh => ?_)
   clear hK K
   try go_frame
   refine rdH [13] ?_
   refine rcH (fun K hK => ?_) AllReadyH.nil
   clear hh
   go_simp
   refine (at_x _ _ _).mono ?_
   rintro e x13 ⟨rfl, hb⟩
   replace HB := hid (HB.out.next hb)
   replace HV := hid (HV.out.next hb)
   clear hb
   refine hK.out _ _ ⟨trivial, HV.out.2⟩ (fun hh => ?_)
   clear hK K
   try go_frame
   refine rdH [14] ?_
   refine rcH (fun K hK => ?_) AllReadyH.nil
   clear hh
   go_simp
   refine hK.out _ _ ⟨trivial, (HV.out.next (below_al _ _)).2⟩ (fun hh => ?_)
   clear hK K
   try go_frame
   refine rdH [15] ?_
   refine rcH (fun K hK => ?_) AllReadyH.nil
   clear hh
   go_simp
   refine (add_t HB.out [iAt 4 0, iNum ((n : Int) % 7 - 3), iOne (selI (n : Int) 4 [10, 11, 12, 9]), iAt 5 0] _ rfl _ rfl (by simp [bAdd, bTry]; omega)).mono ?_
   rintro e w' ⟨rfl, H1, H2, H3⟩
   replace HV := hid ((HV.out.next (below_al _ _)).same H2 (H3 _ (by simp)))
   replace HB := hid H1
   clear H1 H2 H3
   refine hK.out _ _ ⟨trivial, HV.out.2⟩ (fun hh => ?_)
   clear hK K
   try go_frame
   refine wpAnyH_done (by kernel_rfl) ?_ _
   replace HB := hid HB.out.bs
   clear HV
   go_wp2_with (fail)
   refine (try_s (HB.out.lit _) st.1.length ⟨#[90, 101, 114, 111, 70, 97, 117, 108, 116]⟩ ⟨#[122, 101, 114, 111]⟩ (by omega) (by simp [bAdd, bTry]; omega) (by simp [bAdd, bTry]; omega)).mono ?_
   rintro e w' ⟨rfl, H1⟩
   replace HB := hid H1
   clear H1
   go_wp2_with fail
   go_ret
   exact ⟨rfl, by rw [HE.out]; exact HB.out⟩
  refine rcH (fun K hK => ?_) AllReadyH.nil
  clear hh
  go_simp
  replace HB := hid (HB.out.lit (.cells #[.int .i64 10, .int .i64 11, .int .i64 12, .int .i64 9] 3))
  have HV := hid (CV.made (w := w.drew) (cs := #[.int .i64 10, .int .i64 11, .int .i64 12, .int .i64 9]) (T := 3) (i := ((n : Int).tmod 4).toNat) (v := .int .i64 (selI (n : Int) 4 [10, 11, 12, 9])) HCV.out)
  refine hK.out _ _ trivial (fun hh => ?_)
  clear hK K
  try go_frame
  refine tkA 10 _ hh ?_
  try go_frame
  refine wpAnyH_and (T := fun W => W.cell? ⟨w.heap.size, ((n : Int).tmod 4).toNat, none⟩ = some (.int .i64 (selI (n : Int) 4 [10, 11, 12, 9]))) _ _ _ _ ?_
  replace hh := And.intro hh (HV.out.2)
  refine tkH 11 ?_ (fun W hSw => ?_) hh ?_
  rotate_left 1
  ·(have hT := hSw.2; clear hSw; first | (go_simp; done) | (go_simp; with_reducible rfl))
  try go_frame
  refine rdH [1] ?_
  refine rcH (fun K hK => ?_) AllReadyH.nil
  clear hh
  go_simp
  refine (at_x _ _ _).mono ?_
  rintro e x1 ⟨rfl, hb⟩
  replace HB := hid (HB.out.next hb)
  replace HV := hid (HV.out.next hb)
  clear hb
  refine hK.out _ _ ⟨trivial, HV.out.2⟩ (fun hh => ?_)
  clear hK K
  try go_frame
  refine rdH [6] ?_
  refine rcH (fun K hK => ?_) AllReadyH.nil
  clear hh
  go_simp
  refine (num_y _ (n % 7 - 3) _ (by first | rfl | (simp only [IntKind.wrap_i64, Int.tmod_eq_emod_of_nonneg (Int.natCast_nonneg n)]; omega)) (by omega)).mono ?_
  rintro e x6 ⟨rfl, hb⟩
  replace HB := hid (HB.out.next hb)
  replace HV := hid (HV.out.next hb)
  clear hb
  refine hK.out _ _ ⟨trivial, HV.out.2⟩ (fun hh => ?_)
  clear hK K
  try go_frame
  refine rdH [12] ?_
  refine rcH (fun K hK => ?_) AllReadyH.nil
  clear hh
  go_simp
  refine (one_x _ _).mono ?_
  rintro e x12 ⟨rfl, hb⟩
  replace HB := hid (HB.out.next hb)
  replace HV := hid (HV.out.next hb)
  clear hb
  refine hK.out _ _ ⟨trivial, HV.out.2⟩ (fun hh => ?_)
  clear hK K
  try go_frame
  refine rdH [13] ?_
  refine rcH (fun K hK => ?_) AllReadyH.nil
  clear hh
  go_simp
  refine (at_x _ _ _).mono ?_
  rintro e x13 ⟨rfl, hb⟩
  replace HB := hid (HB.out.next hb)
  replace HV := hid (HV.out.next hb)
  clear hb
  refine hK.out _ _ ⟨trivial, HV.out.2⟩ (fun hh => ?_)
  clear hK K
  try go_frame
  refine rdH [14] ?_
  refine rcH (fun K hK => ?_) AllReadyH.nil
  clear hh
  go_simp
  refine hK.out _ _ ⟨trivial, (HV.out.next (below_al _ _)).2⟩ (fun hh => ?_)
  clear hK K
  try go_frame
  refine rdH [15] ?_
  refine rcH (fun K hK => ?_) AllReadyH.nil
  clear hh
  go_simp
  refine (add_t HB.out [iAt 4 0, iNum ((n : Int) % 7 - 3), iOne (selI (n : Int) 4 [10, 11, 12, 9]), iAt 5 0] _ rfl _ rfl (by simp [bAdd, bTry]; omega)).mono ?_
  rintro e w' ⟨rfl, H1, H2, H3⟩
  replace HV := hid ((HV.out.next (below_al _ _)).same H2 (H3 _ (by simp)))
  replace HB := hid H1
  clear H1 H2 H3
  refine hK.out _ _ ⟨trivial, HV.out.2⟩ (fun hh => ?_)
  clear hK K
  try go_frame
  refine wpAnyH_done (by kernel_rfl) ?_ _
  replace HB := hid HB.out.bs
  clear HV
  go_wp2_with (fail)
  refine (try_s (HB.out.lit _) st.1.length ⟨#[90, 101, 114, 111, 70, 97, 117, 108, 116]⟩ ⟨#[122, 101, 114, 111]⟩ (by omega) (by simp [bAdd, bTry]; omega) (by simp [bAdd, bTry]; omega)).mono ?_
  rintro e w' ⟨rfl, H1⟩
  replace HB := hid H1
  clear H1
  go_wp2_with fail
  go_ret
  exact ⟨rfl, by rw [HE.out]; exact HB.out⟩
 ·have hi0 : (n : Int) / 4 % 2 = 1 := by omega
  have hs0 : selT ((n : Int) / 4) 2 [⟨#[90, 101, 114, 111, 70, 97, 117, 108, 116]⟩, ⟨#[70, 97, 117, 108, 116]⟩] = ⟨#[70, 97, 117, 108, 116]⟩ := by unfold selT; rw [hi0]; rfl
  have hq : 0 <= (n : Int).tmod 4 /\ (n : Int).tmod 4 < 4 := by rw [Int.tmod_eq_emod_of_nonneg (Int.natCast_nonneg n)]; omega
  have hcv : (#[.int .i64 10, .int .i64 11, .int .i64 12, .int .i64 9] : Array Value)[((n : Int).tmod 4).toNat]? = some (.int .i64 (selI (n : Int) 4 [10, 11, 12, 9])) := by
   rw [Int.tmod_eq_emod_of_nonneg (Int.natCast_nonneg n)]; unfold selI
   obtain ⟨j, hj, h⟩ : ∃ j : Nat, j < 4 /\ (n : Int) % 4 = (j : Int) := ⟨n % 4, by omega, by omega⟩
   rw [h]
   match j, hj with
   | 0, _ => rfl
   | 1, _ => rfl
   | 2, _ => rfl
   | 3, _ => rfl
  have HCV := hid hcv
  clear hcv
  have HE : Hid (snip 7 (n : Int) st = bTry st.1.length ⟨#[70, 97, 117, 108, 116]⟩ ⟨#[122, 101, 114, 111]⟩ (bAdd [iAt 4 0, iNum ((n : Int) % 7 - 3), iOne (selI (n : Int) 4 [10, 11, 12, 9]), iAt 5 0] st)) := hid (by simp only [snip, hs0])
  clear hs0
  go_enter Tryz.func64, Tryz.ntmps64
  go_wp2_with fail
  replace HB := hid HB.out.bt
  clear c0 q0
  replace HB := hid (HB.out.next (below_dr w))
  refine wp_region_held_drew (S := fun _ => True) (by kernel_rfl) trivial (fun hh => ?_)
  refine tkA 0 _ hh ?_
  try go_frame
  refine tkA 2 _ hh ?_
  try go_frame
  refine tkA 3 _ hh ?_
  try go_frame
  refine tkA 4 _ hh ?_
  try go_frame
  refine tkA 5 _ hh ?_
  try go_frame
  refine tkA 8 _ hh ?_
  try go_frame
  refine tkA 9 _ hh ?_
  try go_frame
  refine rdH [1, 7] ?_
  refine rcH (fun K hK => ?_) ?_
  ·clear hh
   go_simp
   refine (at_x _ _ _).mono ?_
   rintro e x1 ⟨rfl, hb⟩
   replace HB := hid (HB.out.next hb)
   clear hb
   refine hK.out _ _ trivial (fun hh => ?_)
   clear hK K
   try go_frame
   refine rdH [6, 7] ?_
   refine rcH (fun K hK => ?_) ?_
   ·clear hh
    go_simp
    refine (num_y _ (n % 7 - 3) _ (by first | rfl | (simp only [IntKind.wrap_i64, Int.tmod_eq_emod_of_nonneg (Int.natCast_nonneg n)]; omega)) (by omega)).mono ?_
    rintro e x6 ⟨rfl, hb⟩
    replace HB := hid (HB.out.next hb)
    clear hb
    refine hK.out _ _ trivial (fun hh => ?_)
    clear hK K
    try go_frame
    refine rdH [7] ?_
    refine rcH (fun K hK => ?_) AllReadyH.nil
    clear hh
    go_simp
    replace HB := hid (HB.out.lit (.cells #[.int .i64 10, .int .i64 11, .int .i64 12, .int .i64 9] 3))
    have HV := hid (CV.made (w := x6) (cs := #[.int .i64 10, .int .i64 11, .int .i64 12, .int .i64 9]) (T := 3) (i := ((n : Int).tmod 4).toNat) (v := .int .i64 (selI (n : Int) 4 [10, 11, 12, 9])) HCV.out)
    refine hK.out _ _ trivial (fun hh => ?_)
    clear hK K
    try go_frame
    refine tkA 10 _ hh ?_
    try go_frame
    refine wpAnyH_and (T := fun W => W.cell? ⟨x6.heap.size, ((n : Int).tmod 4).toNat, none⟩ = some (.int .i64 (selI (n : Int) 4 [10, 11, 12, 9]))) _ _ _ _ ?_
    replace hh := And.intro hh (HV.out.2)
    refine tkH 11 ?_ (fun W hSw => ?_) hh ?_
    rotate_left 1
    ·(have hT := hSw.2; clear hSw; first | (go_simp; done) | (go_simp; with_reducible rfl))
    try go_frame
    refine rdH [12] ?_
    refine rcH (fun K hK => ?_) AllReadyH.nil
    clear hh
    go_simp
    refine (one_x _ _).mono ?_
    rintro e x12 ⟨rfl, hb⟩
    replace HB := hid (HB.out.next hb)
    replace HV := hid (HV.out.next hb)
    clear hb
    refine hK.out _ _ ⟨trivial, HV.out.2⟩ (fun hh => ?_)
    clear hK K
    try go_frame
    refine rdH [13] ?_
    refine rcH (fun K hK => ?_) AllReadyH.nil
    clear hh
    go_simp
    refine (at_x _ _ _).mono ?_
    rintro e x13 ⟨rfl, hb⟩
    replace HB := hid (HB.out.next hb)
    replace HV := hid (HV.out.next hb)
    clear hb
    refine hK.out _ _ ⟨trivial, HV.out.2⟩ (fun hh => ?_)
    clear hK K
    try go_frame
    refine rdH [14] ?_
    refine rcH (fun K hK => ?_) AllReadyH.nil
    clear hh
    go_simp
    refine hK.out _ _ ⟨trivial, (HV.out.next (below_al _ _)).2⟩ (fun hh => ?_)
    clear hK K
    try go_frame
    refine rdH [15] ?_
    refine rcH (fun K hK => ?_) AllReadyH.nil
    clear hh
    go_simp
    refine (add_t HB.out [iAt 4 0, iNum ((n : Int) % 7 - 3), iOne (selI (n : Int) 4 [10, 11, 12, 9]), iAt 5 0] _ rfl _ rfl (by simp [bAdd, bTry]; omega)).mono ?_
    rintro e w' ⟨rfl, H1, H2, H3⟩
    replace HV := hid ((HV.out.next (below_al _ _)).same H2 (H3 _ (by simp)))
    replace HB := hid H1
    clear H1 H2 H3
    refine hK.out _ _ ⟨trivial, HV.out.2⟩ (fun hh => ?_)
    clear hK K
    try go_frame
    refine wpAnyH_done (by kernel_rfl) ?_ _
    replace HB := hid HB.out.bs
    clear HV
    go_wp2_with (fail)
    refine (try_s (HB.out.lit _) st.1.length ⟨#[70, 97, 117, 108, 116]⟩ ⟨#[122, 101, 114, 111]⟩ (by omega) (by simp [bAdd, bTry]; omega) (by simp [bAdd, bTry]; omega)).mono ?_
    rintro e w' ⟨rfl, H1⟩
    replace HB := hid H1
    clear H1
    go_wp2_with fail
    go_ret
    exact ⟨rfl, by rw [HE.out]; exact HB.out⟩
   refine rcH (fun K hK => ?_) AllReadyH.nil
   clear hh
   go_simp
   replace HB := hid (HB.out.lit (.cells #[.int .i64 10, .int .i64 11, .int .i64 12, .int .i64 9] 3))
   have HV := hid (CV.made (w := x1) (cs := #[.int .i64 10, .int .i64 11, .int .i64 12, .int .i64 9]) (T := 3) (i := ((n : Int).tmod 4).toNat) (v := .int .i64 (selI (n : Int) 4 [10, 11, 12, 9])) HCV.out)
   refine hK.out _ _ trivial (fun hh => ?_)
   clear hK K
   try go_frame
   refine tkA 10 _ hh ?_
   try go_frame
   refine wpAnyH_and (T := fun W => W.cell? ⟨x1.heap.size, ((n : Int).tmod 4).toNat, none⟩ = some (.int .i64 (selI (n : Int) 4 [10, 11, 12, 9]))) _ _ _ _ ?_
   replace hh := And.intro hh (HV.out.2)
   refine tkH 11 ?_ (fun W hSw => ?_) hh ?_
   rotate_left 1
   ·(have hT := hSw.2; clear hSw; first | (go_simp; done) | (go_simp; with_reducible rfl))
   try go_frame
   refine rdH [6] ?_
   refine rcH (fun K hK => ?_) AllReadyH.nil
   clear hh
   go_simp
   refine (num_y _ (n % 7 - 3) _ (by first | rfl | (simp only [IntKind.wrap_i64, Int.tmod_eq_emod_of_nonneg (Int.natCast_nonneg n)]; omega)) (by omega)).mono ?_
   rintro e x6 ⟨rfl, hb⟩
   replace HB := hid (HB.out.next hb)
   replace HV := hid (HV.out.next hb)
   clear hb
   refine hK.out _ _ ⟨trivial, HV.out.2⟩ (fun hh => ?_)
   clear hK K
   try go_frame
   refine rdH [12] ?_
   refine rcH (fun K hK => ?_) AllReadyH.nil
   clear hh
   go_simp
   refine (one_x _ _).mono ?_
   rintro e x12 ⟨rfl, hb⟩
   replace HB := hid (HB.out.next hb)
   replace HV := hid (HV.out.next hb)
   clear hb
   refine hK.out _ _ ⟨trivial, HV.out.2⟩ (fun hh => ?_)
   clear hK K
   try go_frame
   refine rdH [13] ?_
   refine rcH (fun K hK => ?_) AllReadyH.nil
   clear hh
   go_simp
   refine (at_x _ _ _).mono ?_
   rintro e x13 ⟨rfl, hb⟩
   replace HB := hid (HB.out.next hb)
   replace HV := hid (HV.out.next hb)
   clear hb
   refine hK.out _ _ ⟨trivial, HV.out.2⟩ (fun hh => ?_)
   clear hK K
   try go_frame
   refine rdH [14] ?_
   refine rcH (fun K hK => ?_) AllReadyH.nil
   clear hh
   go_simp
   refine hK.out _ _ ⟨trivial, (HV.out.next (below_al _ _)).2⟩ (fun hh => ?_)
   clear hK K
   try go_frame
   refine rdH [15] ?_
   refine rcH (fun K hK => ?_) AllReadyH.nil
   clear hh
   go_simp
   refine (add_t HB.out [iAt 4 0, iNum ((n : Int) % 7 - 3), iOne (selI (n : Int) 4 [10, 11, 12, 9]), iAt 5 0] _ rfl _ rfl (by simp [bAdd, bTry]; omega)).mono ?_
   rintro e w' ⟨rfl, H1, H2, H3⟩
   replace HV := hid ((HV.out.next (below_al _ _)).same H2 (H3 _ (by simp)))
   replace HB := hid H1
   clear H1 H2 H3
   refine hK.out _ _ ⟨trivial, HV.out.2⟩ (fun hh => ?_)
   clear hK K
   try go_frame
   refine wpAnyH_done (by kernel_rfl) ?_ _
   replace HB := hid HB.out.bs
   clear HV
   go_wp2_with (fail)
   refine (try_s (HB.out.lit _) st.1.length ⟨#[70, 97, 117, 108, 116]⟩ ⟨#[122, 101, 114, 111]⟩ (by omega) (by simp [bAdd, bTry]; omega) (by simp [bAdd, bTry]; omega)).mono ?_
   rintro e w' ⟨rfl, H1⟩
   replace HB := hid H1
   clear H1
   go_wp2_with fail
   go_ret
   exact ⟨rfl, by rw [HE.out]; exact HB.out⟩
  refine rcH (fun K hK => ?_) AllReadyH.nil
  clear hh
  go_simp
  replace HB := hid (HB.out.lit (.cells #[.int .i64 10, .int .i64 11, .int .i64 12, .int .i64 9] 3))
  have HV := hid (CV.made (w := w.drew) (cs := #[.int .i64 10, .int .i64 11, .int .i64 12, .int .i64 9]) (T := 3) (i := ((n : Int).tmod 4).toNat) (v := .int .i64 (selI (n : Int) 4 [10, 11, 12, 9])) HCV.out)
  refine hK.out _ _ trivial (fun hh => ?_)
  clear hK K
  try go_frame
  refine tkA 10 _ hh ?_
  try go_frame
  refine wpAnyH_and (T := fun W => W.cell? ⟨w.heap.size, ((n : Int).tmod 4).toNat, none⟩ = some (.int .i64 (selI (n : Int) 4 [10, 11, 12, 9]))) _ _ _ _ ?_
  replace hh := And.intro hh (HV.out.2)
  refine tkH 11 ?_ (fun W hSw => ?_) hh ?_
  rotate_left 1
  ·(have hT := hSw.2; clear hSw; first | (go_simp; done) | (go_simp; with_reducible rfl))
  try go_frame
  refine rdH [1] ?_
  refine rcH (fun K hK => ?_) AllReadyH.nil
  clear hh
  go_simp
  refine (at_x _ _ _).mono ?_
  rintro e x1 ⟨rfl, hb⟩
  replace HB := hid (HB.out.next hb)
  replace HV := hid (HV.out.next hb)
  clear hb
  refine hK.out _ _ ⟨trivial, HV.out.2⟩ (fun hh => ?_)
  clear hK K
  try go_frame
  refine rdH [6] ?_
  refine rcH (fun K hK => ?_) AllReadyH.nil
  clear hh
  go_simp
  refine (num_y _ (n % 7 - 3) _ (by first | rfl | (simp only [IntKind.wrap_i64, Int.tmod_eq_emod_of_nonneg (Int.natCast_nonneg n)]; omega)) (by omega)).mono ?_
  rintro e x6 ⟨rfl, hb⟩
  replace HB := hid (HB.out.next hb)
  replace HV := hid (HV.out.next hb)
  clear hb
  refine hK.out _ _ ⟨trivial, HV.out.2⟩ (fun hh => ?_)
  clear hK K
  try go_frame
  refine rdH [12] ?_
  refine rcH (fun K hK => ?_) AllReadyH.nil
  clear hh
  go_simp
  refine (one_x _ _).mono ?_
  rintro e x12 ⟨rfl, hb⟩
  replace HB := hid (HB.out.next hb)
  replace HV := hid (HV.out.next hb)
  clear hb
  refine hK.out _ _ ⟨trivial, HV.out.2⟩ (fun hh => ?_)
  clear hK K
  try go_frame
  refine rdH [13] ?_
  refine rcH (fun K hK => ?_) AllReadyH.nil
  clear hh
  go_simp
  refine (at_x _ _ _).mono ?_
  rintro e x13 ⟨rfl, hb⟩
  replace HB := hid (HB.out.next hb)
  replace HV := hid (HV.out.next hb)
  clear hb
  refine hK.out _ _ ⟨trivial, HV.out.2⟩ (fun hh => ?_)
  clear hK K
  try go_frame
  refine rdH [14] ?_
  refine rcH (fun K hK => ?_) AllReadyH.nil
  clear hh
  go_simp
  refine hK.out _ _ ⟨trivial, (HV.out.next (below_al _ _)).2⟩ (fun hh => ?_)
  clear hK K
  try go_frame
  refine rdH [15] ?_
  refine rcH (fun K hK => ?_) AllReadyH.nil
  clear hh
  go_simp
  refine (add_t HB.out [iAt 4 0, iNum ((n : Int) % 7 - 3), iOne (selI (n : Int) 4 [10, 11, 12, 9]), iAt 5 0] _ rfl _ rfl (by simp [bAdd, bTry]; omega)).mono ?_
  rintro e w' ⟨rfl, H1, H2, H3⟩
  replace HV := hid ((HV.out.next (below_al _ _)).same H2 (H3 _ (by simp)))
  replace HB := hid H1
  clear H1 H2 H3
  refine hK.out _ _ ⟨trivial, HV.out.2⟩ (fun hh => ?_)
  clear hK K
  try go_frame
  refine wpAnyH_done (by kernel_rfl) ?_ _
  replace HB := hid HB.out.bs
  clear HV
  go_wp2_with (fail)
  refine (try_s (HB.out.lit _) st.1.length ⟨#[70, 97, 117, 108, 116]⟩ ⟨#[122, 101, 114, 111]⟩ (by omega) (by simp [bAdd, bTry]; omega) (by simp [bAdd, bTry]; omega)).mono ?_
  rintro e w' ⟨rfl, H1⟩
  replace HB := hid H1
  clear H1
  go_wp2_with fail
  go_ret
  exact ⟨rfl, by rw [HE.out]; exact HB.out⟩
theorem snip_8 : SnN 8 8 := by
 intro B bb st w0 w H n hn hl hl2
 obtain ⟨p, cap, q0, c0⟩ := H.len
 have HB := hid H
 clear H
 have hq : 0 <= (n : Int).tmod 2 /\ (n : Int).tmod 2 < 2 := by rw [Int.tmod_eq_emod_of_nonneg (Int.natCast_nonneg n)]; omega
 have hcv : (#[.int .i64 14, .int .i64 15] : Array Value)[((n : Int).tmod 2).toNat]? = some (.int .i64 (selI (n : Int) 2 [14, 15])) := by
  rw [Int.tmod_eq_emod_of_nonneg (Int.natCast_nonneg n)]; unfold selI
  obtain ⟨j, hj, h⟩ : ∃ j : Nat, j < 2 /\ (n : Int) % 2 = (j : Int) := ⟨n % 2, by omega, by omega⟩
  rw [h]
  match j, hj with
  | 0, _ => rfl
  | 1, _ => rfl
 have HCV := hid hcv
 clear hcv
 have HE : Hid (snip 8 (n : Int) st = bAdd [iAt 4 0, iNum ((n : Int) % 9), iOne (selI (n : Int) 2 [14, 15]), iAt 5 0] st) := hid (rfl)
 go_enter Tryz.func64, Tryz.ntmps64
 go_wp2_with fail
 replace HB := hid HB.out.bt
 clear c0 q0
 replace HB := hid (HB.out.next (below_dr w))
 refine wp_region_held_drew (S := fun _ => True) (by kernel_rfl) trivial (fun hh => ?_)
 refine tkA 0 _ hh ?_
 try go_frame
 refine tkA 2 _ hh ?_
 try go_frame
 refine tkA 3 _ hh ?_
 try go_frame
 refine tkA 4 _ hh ?_
 try go_frame
 refine tkA 7 _ hh ?_
 try go_frame
 refine tkA 8 _ hh ?_
 try go_frame
 refine rdH [1, 6] ?_
 refine rcH (fun K hK => ?_) ?_
 ·clear hh
  go_simp
  refine (at_x _ _ _).mono ?_
  rintro e x1 ⟨rfl, hb⟩
  replace HB := hid (HB.out.next hb)
  clear hb
  refine hK.out _ _ trivial (fun hh => ?_)
  clear hK K
  try go_frame
  refine rdH [5, 6] ?_
  refine rcH (fun K hK => ?_) ?_
  ·clear hh
   go_simp
   refine (num_y _ (n % 9) _ (by first | rfl | (simp only [IntKind.wrap_i64, Int.tmod_eq_emod_of_nonneg (Int.natCast_nonneg n)]; omega)) (by omega)).mono ?_
   rintro e x5 ⟨rfl, hb⟩
   replace HB := hid (HB.out.next hb)
   clear hb
   refine hK.out _ _ trivial (fun hh => ?_)
   clear hK K
   try go_frame
   refine rdH [6] ?_
   refine rcH (fun K hK => ?_) AllReadyH.nil
   clear hh
   go_simp
   replace HB := hid (HB.out.lit (.cells #[.int .i64 14, .int .i64 15] 3))
   have HV := hid (CV.made (w := x5) (cs := #[.int .i64 14, .int .i64 15]) (T := 3) (i := ((n : Int).tmod 2).toNat) (v := .int .i64 (selI (n : Int) 2 [14, 15])) HCV.out)
   refine hK.out _ _ trivial (fun hh => ?_)
   clear hK K
   try go_frame
   refine tkA 9 _ hh ?_
   try go_frame
   refine wpAnyH_and (T := fun W => W.cell? ⟨x5.heap.size, ((n : Int).tmod 2).toNat, none⟩ = some (.int .i64 (selI (n : Int) 2 [14, 15]))) _ _ _ _ ?_
   replace hh := And.intro hh (HV.out.2)
   refine tkH 10 ?_ (fun W hSw => ?_) hh ?_
   rotate_left 1
   ·(have hT := hSw.2; clear hSw; first | (go_simp; done) | (go_simp; with_reducible rfl))
   try go_frame
   refine rdH [11] ?_
   refine rcH (fun K hK => ?_) AllReadyH.nil
   clear hh
   go_simp
   refine (one_x _ _).mono ?_
   rintro e x11 ⟨rfl, hb⟩
   replace HB := hid (HB.out.next hb)
   replace HV := hid (HV.out.next hb)
   clear hb
   refine hK.out _ _ ⟨trivial, HV.out.2⟩ (fun hh => ?_)
   clear hK K
   try go_frame
   refine rdH [12] ?_
   refine rcH (fun K hK => ?_) AllReadyH.nil
   clear hh
   go_simp
   refine (at_x _ _ _).mono ?_
   rintro e x12 ⟨rfl, hb⟩
   replace HB := hid (HB.out.next hb)
   replace HV := hid (HV.out.next hb)
   clear hb
   refine hK.out _ _ ⟨trivial, HV.out.2⟩ (fun hh => ?_)
   clear hK K
   try go_frame
   refine rdH [13] ?_
   refine rcH (fun K hK => ?_) AllReadyH.nil
   clear hh
   go_simp
   refine hK.out _ _ ⟨trivial, (HV.out.next (below_al _ _)).2⟩ (fun hh => ?_)
   clear hK K
   try go_frame
   refine rdH [14] ?_
   refine rcH (fun K hK => ?_) AllReadyH.nil
   clear hh
   go_simp
   refine (add_t HB.out [iAt 4 0, iNum ((n : Int) % 9), iOne (selI (n : Int) 2 [14, 15]), iAt 5 0] _ rfl _ rfl (by simp [bAdd, bTry]; omega)).mono ?_
   rintro e w' ⟨rfl, H1, H2, H3⟩
   replace HV := hid ((HV.out.next (below_al _ _)).same H2 (H3 _ (by simp)))
   replace HB := hid H1
   clear H1 H2 H3
   refine hK.out _ _ ⟨trivial, HV.out.2⟩ (fun hh => ?_)
   clear hK K
   try go_frame
   refine wpAnyH_done (by kernel_rfl) ?_ _
   replace HB := hid HB.out.bs
   clear HV
   go_wp2_with fail
   go_ret
   exact ⟨rfl, by rw [HE.out]; exact HB.out⟩
  refine rcH (fun K hK => ?_) AllReadyH.nil
  clear hh
  go_simp
  replace HB := hid (HB.out.lit (.cells #[.int .i64 14, .int .i64 15] 3))
  have HV := hid (CV.made (w := x1) (cs := #[.int .i64 14, .int .i64 15]) (T := 3) (i := ((n : Int).tmod 2).toNat) (v := .int .i64 (selI (n : Int) 2 [14, 15])) HCV.out)
  refine hK.out _ _ trivial (fun hh => ?_)
  clear hK K
  try go_frame
  refine tkA 9 _ hh ?_
  try go_frame
  refine wpAnyH_and (T := fun W => W.cell? ⟨x1.heap.size, ((n : Int).tmod 2).toNat, none⟩ = some (.int .i64 (selI (n : Int) 2 [14, 15]))) _ _ _ _ ?_
  replace hh := And.intro hh (HV.out.2)
  refine tkH 10 ?_ (fun W hSw => ?_) hh ?_
  rotate_left 1
  ·(have hT := hSw.2; clear hSw; first | (go_simp; done) | (go_simp; with_reducible rfl))
  try go_frame
  refine rdH [5] ?_
  refine rcH (fun K hK => ?_) AllReadyH.nil
  clear hh
  go_simp
  refine (num_y _ (n % 9) _ (by first | rfl | (simp only [IntKind.wrap_i64, Int.tmod_eq_emod_of_nonneg (Int.natCast_nonneg n)]; omega)) (by omega)).mono ?_
  rintro e x5 ⟨rfl, hb⟩
  replace HB := hid (HB.out.next hb)
  replace HV := hid (HV.out.next hb)
  clear hb
  refine hK.out _ _ ⟨trivial, HV.out.2⟩ (fun hh => ?_)
  clear hK K
  try go_frame
  refine rdH [11] ?_
  refine rcH (fun K hK => ?_) AllReadyH.nil
  clear hh
  go_simp
  refine (one_x _ _).mono ?_
  rintro e x11 ⟨rfl, hb⟩
  replace HB := hid (HB.out.next hb)
  replace HV := hid (HV.out.next hb)
  clear hb
  refine hK.out _ _ ⟨trivial, HV.out.2⟩ (fun hh => ?_)
  clear hK K
  try go_frame
  refine rdH [12] ?_
  refine rcH (fun K hK => ?_) AllReadyH.nil
  clear hh
  go_simp
  refine (at_x _ _ _).mono ?_
  rintro e x12 ⟨rfl, hb⟩
  replace HB := hid (HB.out.next hb)
  replace HV := hid (HV.out.next hb)
  clear hb
  refine hK.out _ _ ⟨trivial, HV.out.2⟩ (fun hh => ?_)
  clear hK K
  try go_frame
  refine rdH [13] ?_
  refine rcH (fun K hK => ?_) AllReadyH.nil
  clear hh
  go_simp
  refine hK.out _ _ ⟨trivial, (HV.out.next (below_al _ _)).2⟩ (fun hh => ?_)
  clear hK K
  try go_frame
  refine rdH [14] ?_
  refine rcH (fun K hK => ?_) AllReadyH.nil
  clear hh
  go_simp
  refine (add_t HB.out [iAt 4 0, iNum ((n : Int) % 9), iOne (selI (n : Int) 2 [14, 15]), iAt 5 0] _ rfl _ rfl (by simp [bAdd, bTry]; omega)).mono ?_
  rintro e w' ⟨rfl, H1, H2, H3⟩
  replace HV := hid ((HV.out.next (below_al _ _)).same H2 (H3 _ (by simp)))
  replace HB := hid H1
  clear H1 H2 H3
  refine hK.out _ _ ⟨trivial, HV.out.2⟩ (fun hh => ?_)
  clear hK K
  try go_frame
  refine wpAnyH_done (by kernel_rfl) ?_ _
  replace HB := hid HB.out.bs
  clear HV
  go_wp2_with fail
  go_ret
  exact ⟨rfl, by rw [HE.out]; exact HB.out⟩
 refine rcH (fun K hK => ?_) AllReadyH.nil
 clear hh
 go_simp
 replace HB := hid (HB.out.lit (.cells #[.int .i64 14, .int .i64 15] 3))
 have HV := hid (CV.made (w := w.drew) (cs := #[.int .i64 14, .int .i64 15]) (T := 3) (i := ((n : Int).tmod 2).toNat) (v := .int .i64 (selI (n : Int) 2 [14, 15])) HCV.out)
 refine hK.out _ _ trivial (fun hh => ?_)
 clear hK K
 try go_frame
 refine tkA 9 _ hh ?_
 try go_frame
 refine wpAnyH_and (T := fun W => W.cell? ⟨w.heap.size, ((n : Int).tmod 2).toNat, none⟩ = some (.int .i64 (selI (n : Int) 2 [14, 15]))) _ _ _ _ ?_
 replace hh := And.intro hh (HV.out.2)
 refine tkH 10 ?_ (fun W hSw => ?_) hh ?_
 rotate_left 1
 ·(have hT := hSw.2; clear hSw; first | (go_simp; done) | (go_simp; with_reducible rfl))
 try go_frame
 refine rdH [1] ?_
 refine rcH (fun K hK => ?_) AllReadyH.nil
 clear hh
 go_simp
 refine (at_x _ _ _).mono ?_
 rintro e x1 ⟨rfl, hb⟩
 replace HB := hid (HB.out.next hb)
 replace HV := hid (HV.out.next hb)
 clear hb
 refine hK.out _ _ ⟨trivial, HV.out.2⟩ (fun hh => ?_)
 clear hK K
 try go_frame
 refine rdH [5] ?_
 refine rcH (fun K hK => ?_) AllReadyH.nil
 clear hh
 go_simp
 refine (num_y _ (n % 9) _ (by first | rfl | (simp only [IntKind.wrap_i64, Int.tmod_eq_emod_of_nonneg (Int.natCast_nonneg n)]; omega)) (by omega)).mono ?_
 rintro e x5 ⟨rfl, hb⟩
 replace HB := hid (HB.out.next hb)
 replace HV := hid (HV.out.next hb)
 clear hb
 refine hK.out _ _ ⟨trivial, HV.out.2⟩ (fun hh => ?_)
 clear hK K
 try go_frame
 refine rdH [11] ?_
 refine rcH (fun K hK => ?_) AllReadyH.nil
 clear hh
 go_simp
 refine (one_x _ _).mono ?_
 rintro e x11 ⟨rfl, hb⟩
 replace HB := hid (HB.out.next hb)
 replace HV := hid (HV.out.next hb)
 clear hb
 refine hK.out _ _ ⟨trivial, HV.out.2⟩ (fun hh => ?_)
 clear hK K
 try go_frame
 refine rdH [12] ?_
 refine rcH (fun K hK => ?_) AllReadyH.nil
 clear hh
 go_simp
 refine (at_x _ _ _).mono ?_
 rintro e x12 ⟨rfl, hb⟩
 replace HB := hid (HB.out.next hb)
 replace HV := hid (HV.out.next hb)
 clear hb
 refine hK.out _ _ ⟨trivial, HV.out.2⟩ (fun hh => ?_)
 clear hK K
 try go_frame
 refine rdH [13] ?_
 refine rcH (fun K hK => ?_) AllReadyH.nil
 clear hh
 go_simp
 refine hK.out _ _ ⟨trivial, (HV.out.next (below_al _ _)).2⟩ (fun hh => ?_)
 clear hK K
 try go_frame
 refine rdH [14] ?_
 refine rcH (fun K hK => ?_) AllReadyH.nil
 clear hh
 go_simp
 refine (add_t HB.out [iAt 4 0, iNum ((n : Int) % 9), iOne (selI (n : Int) 2 [14, 15]), iAt 5 0] _ rfl _ rfl (by simp [bAdd, bTry]; omega)).mono ?_
 rintro e w' ⟨rfl, H1, H2, H3⟩
 replace HV := hid ((HV.out.next (below_al _ _)).same H2 (H3 _ (by simp)))
 replace HB := hid H1
 clear H1 H2 H3
 refine hK.out _ _ ⟨trivial, HV.out.2⟩ (fun hh => ?_)
 clear hK K
 try go_frame
 refine wpAnyH_done (by kernel_rfl) ?_ _
 replace HB := hid HB.out.bs
 clear HV
 go_wp2_with fail
 go_ret
 exact ⟨rfl, by rw [HE.out]; exact HB.out⟩
theorem snip_9 : SnN 9 9 := by
 intro B bb st w0 w H n hn hl hl2
 obtain ⟨p, cap, q0, c0⟩ := H.len
 have HB := hid H
 clear H
 have HE : Hid (snip 9 (n : Int) st = bAdd [iAt 4 0, iOne 13, iAt 5 0] st) := hid (rfl)
 go_enter Tryz.func64, Tryz.ntmps64
 go_wp2_with ((first | (go_at_call 31; refine (one_x _ _).mono ?_) | (go_at_call 32; refine (at_x _ _ _).mono ?_)); rintro e w' ⟨rfl, hb⟩; (first | replace HB := hid (HB.out.next hb) | replace HB := hid ((HB.out.lit _).next hb)); clear hb)
 refine (add_s HB.out [iAt 4 0, iOne 13, iAt 5 0] _ rfl _ rfl (by simp [bAdd, bTry]; omega)).mono ?_
 rintro e w' ⟨rfl, H1⟩
 replace HB := hid H1
 clear H1 c0 q0
 go_wp2_with fail
 go_ret
 exact ⟨rfl, by rw [HE.out]; exact HB.out⟩
theorem snip_10 : SnN 10 10 := by
 intro B bb st w0 w H n hn hl hl2
 obtain ⟨p, cap, q0, c0⟩ := H.len
 have HB := hid H
 clear H
 have HE : Hid (snip 10 (n : Int) st = bAdd [iAt 4 1, iOne 17, iAt 5 0] st) := hid (rfl)
 go_enter Tryz.func64, Tryz.ntmps64
 go_wp2_with ((first | (go_at_call 31; refine (one_x _ _).mono ?_) | (go_at_call 32; refine (at_x _ _ _).mono ?_)); rintro e w' ⟨rfl, hb⟩; (first | replace HB := hid (HB.out.next hb) | replace HB := hid ((HB.out.lit _).next hb)); clear hb)
 refine (add_s HB.out [iAt 4 1, iOne 17, iAt 5 0] _ rfl _ rfl (by simp [bAdd, bTry]; omega)).mono ?_
 rintro e w' ⟨rfl, H1⟩
 replace HB := hid H1
 clear H1 c0 q0
 go_wp2_with fail
 go_ret
 exact ⟨rfl, by rw [HE.out]; exact HB.out⟩
theorem snip_11 : SnN 11 11 := by
 intro B bb st w0 w H n hn hl hl2
 obtain ⟨p, cap, q0, c0⟩ := H.len
 have HB := hid H
 clear H
 have HE : Hid (snip 11 (n : Int) st = bTry st.1.length ⟨#[83, 105, 122, 101, 70, 97, 117, 108, 116]⟩ ⟨#[115, 105, 122, 101]⟩ (bAdd [iNum ((n : Int) % 6 - 1), iOne 21, iAt 5 2] st)) := hid (rfl)
 go_enter Tryz.func64, Tryz.ntmps64
 go_wp2_with ((first | (go_at_call 31; refine (one_x _ _).mono ?_) | (go_at_call 32; refine (at_x _ _ _).mono ?_) | (go_at_call 62; refine (num_x _ _ (by omega)).mono ?_)); rintro e w' ⟨rfl, hb⟩; (first | replace HB := hid (HB.out.next hb) | replace HB := hid ((HB.out.lit _).next hb)); clear hb)
 refine (add_s HB.out [iNum ((n : Int) % 6 - 1), iOne 21, iAt 5 2] _ rfl _ rfl (by simp [bAdd, bTry]; omega)).mono ?_
 rintro e w' ⟨rfl, H1⟩
 replace HB := hid H1
 clear H1 c0 q0
 go_wp2_with (fail)
 refine (try_s HB.out st.1.length ⟨#[83, 105, 122, 101, 70, 97, 117, 108, 116]⟩ ⟨#[115, 105, 122, 101]⟩ (by omega) (by simp [bAdd, bTry]; omega) (by simp [bAdd, bTry]; omega)).mono ?_
 rintro e w' ⟨rfl, H1⟩
 replace HB := hid H1
 clear H1
 go_wp2_with fail
 go_ret
 exact ⟨rfl, by rw [HE.out]; exact HB.out⟩
theorem snip_12 : SnN 12 12 := by
 intro B bb st w0 w H n hn hl hl2
 obtain ⟨p, cap, q0, c0⟩ := H.len
 have HB := hid H
 clear H
 have HE : Hid (snip 12 (n : Int) st = bAdd [iAt 4 2, iOne 22, iAt 5 0] st) := hid (rfl)
 go_enter Tryz.func64, Tryz.ntmps64
 go_wp2_with ((first | (go_at_call 31; refine (one_x _ _).mono ?_) | (go_at_call 32; refine (at_x _ _ _).mono ?_)); rintro e w' ⟨rfl, hb⟩; (first | replace HB := hid (HB.out.next hb) | replace HB := hid ((HB.out.lit _).next hb)); clear hb)
 refine (add_s HB.out [iAt 4 2, iOne 22, iAt 5 0] _ rfl _ rfl (by simp [bAdd, bTry]; omega)).mono ?_
 rintro e w' ⟨rfl, H1⟩
 replace HB := hid H1
 clear H1 c0 q0
 go_wp2_with fail
 go_ret
 exact ⟨rfl, by rw [HE.out]; exact HB.out⟩
theorem snip_13 : SnN 13 13 := by
 intro B bb st w0 w H n hn hl hl2
 obtain ⟨p, cap, q0, c0⟩ := H.len
 have HB := hid H
 clear H
 have HE : Hid (snip 13 (n : Int) st = bAdd [iAt 4 0, iAt 20 ((st.1.length : Int) + 4), iStr (wordT (n : Int)), iOne 41] st) := hid (rfl)
 go_enter Tryz.func64, Tryz.ntmps64
 go_wp2_with ((first | (go_at_call 31; refine (one_x _ _).mono ?_) | (go_at_call 32; refine (at_x _ _ _).mono ?_) | (go_at_call 63; refine (str_x _ _).mono ?_) | (go_at_call 108; refine (word_v _ _ hn).mono ?_)); rintro e w' ⟨rfl, hb⟩; (first | replace HB := hid (HB.out.next hb) | replace HB := hid ((HB.out.lit _).next hb)); clear hb)
 refine (add_s HB.out [iAt 4 0, iAt 20 ((st.1.length : Int) + 4), iStr (wordT (n : Int)), iOne 41] _ rfl _ rfl (by simp [bAdd, bTry]; omega)).mono ?_
 rintro e w' ⟨rfl, H1⟩
 replace HB := hid H1
 clear H1 c0 q0
 go_wp2_with fail
 go_ret
 exact ⟨rfl, by rw [HE.out]; exact HB.out⟩
theorem snip_15 : SnN 15 15 := by
 intro B bb st w0 w H n hn hl hl2
 obtain ⟨p, cap, q0, c0⟩ := H.len
 have HB := hid H
 clear H
 have HE : Hid (snip 15 (n : Int) st = bAdd [iStr (wordT (n : Int)), iOne 7, iOne 16, iOne 41] st) := hid (rfl)
 go_enter Tryz.func64, Tryz.ntmps64
 go_wp2_with ((first | (go_at_call 31; refine (one_x _ _).mono ?_) | (go_at_call 63; refine (str_x _ _).mono ?_) | (go_at_call 108; refine (word_v _ _ hn).mono ?_)); rintro e w' ⟨rfl, hb⟩; (first | replace HB := hid (HB.out.next hb) | replace HB := hid ((HB.out.lit _).next hb)); clear hb)
 refine (add_s HB.out [iStr (wordT (n : Int)), iOne 7, iOne 16, iOne 41] _ rfl _ rfl (by simp [bAdd, bTry]; omega)).mono ?_
 rintro e w' ⟨rfl, H1⟩
 replace HB := hid H1
 clear H1 c0 q0
 go_wp2_with fail
 go_ret
 exact ⟨rfl, by rw [HE.out]; exact HB.out⟩
end Go.Proofs.YtijnimjmimeefaaGreat.A
namespace Go.Proofs.YtijnimjmimeefaaGreat.A
open Go.RowKit Go.Proofs.YtijnimjmimeefaaGreat.D Go.Proofs.YtijnimjmimeefaaGreat.O
theorem snip_16 : SnO 16 16 := by
 intro B bb st w0 w H n hn hl hl2
 obtain ⟨p, cap, q0, c0⟩ := H.len
 have HB := hid H
 clear H
 have HE : Hid (snip 16 (n : Int) st = bAdd [iOf 25 (classT (n : Int)), iAt 5 3] st) := hid (rfl)
 go_enter Tryz.func65, Tryz.ntmps65
 try simp only [List.append_eq, List.cons_append, List.nil_append]
 go_wp2_with fail
 refine (at_x _ _ _).mono ?_
 rintro e w1 ⟨rfl, hb⟩
 replace HB := hid (HB.out.next hb)
 clear hb c0 q0
 replace HB := hid (HB.out.lit (.cells #[.int .i64 4, .int .i32 0, .int .i64 3, .string ⟨#[]⟩, .string ⟨#[]⟩, .string ⟨#[]⟩, .string ⟨#[]⟩] 61))
 go_wp2_with ((first | (go_at_call 32; refine (at_x _ _ _).mono ?_) | (go_at_call 30; refine (of_x _ _ _).mono ?_) | (go_at_call 110; refine (class_v _ _ hn).mono ?_)); rintro e w' ⟨rfl, hb⟩; (first | replace HB := hid (HB.out.next hb) | replace HB := hid ((HB.out.lit _).next hb)); clear hb)
 refine (add_s HB.out [iOf 25 (classT (n : Int)), iAt 5 3] _ rfl _ rfl (by simp [bAdd, bTry]; omega)).mono ?_
 rintro e w' ⟨rfl, H1⟩
 replace HB := hid H1
 clear H1
 go_wp2_with fail
 exact bodyPost_end (results_none rfl _ _ _) rfl ⟨rfl, by rw [HE.out]; exact HB.out⟩
theorem snip_17 : SnO 17 17 := by
 intro B bb st w0 w H n hn hl hl2
 obtain ⟨p, cap, q0, c0⟩ := H.len
 have HB := hid H
 clear H
 have HE : Hid (snip 17 (n : Int) st = bAdd [iOf 25 (classT (n : Int)), iAt 5 3] st) := hid (rfl)
 go_enter Tryz.func65, Tryz.ntmps65
 try simp only [List.append_eq, List.cons_append, List.nil_append]
 go_wp2_with fail
 refine (at_x _ _ _).mono ?_
 rintro e w1 ⟨rfl, hb⟩
 replace HB := hid (HB.out.next hb)
 clear hb c0 q0
 replace HB := hid (HB.out.lit (.cells #[.int .i64 4, .int .i32 0, .int .i64 3, .string ⟨#[]⟩, .string ⟨#[]⟩, .string ⟨#[]⟩, .string ⟨#[]⟩] 61))
 go_wp2_with ((first | (go_at_call 32; refine (at_x _ _ _).mono ?_) | (go_at_call 30; refine (of_x _ _ _).mono ?_) | (go_at_call 110; refine (class_v _ _ hn).mono ?_)); rintro e w' ⟨rfl, hb⟩; (first | replace HB := hid (HB.out.next hb) | replace HB := hid ((HB.out.lit _).next hb)); clear hb)
 refine (add_s HB.out [iOf 25 (classT (n : Int)), iAt 5 3] _ rfl _ rfl (by simp [bAdd, bTry]; omega)).mono ?_
 rintro e w' ⟨rfl, H1⟩
 replace HB := hid H1
 clear H1
 go_wp2_with fail
 exact bodyPost_end (results_none rfl _ _ _) rfl ⟨rfl, by rw [HE.out]; exact HB.out⟩
theorem snip_18 : SnO 18 18 := by
 intro B bb st w0 w H n hn hl hl2
 obtain ⟨p, cap, q0, c0⟩ := H.len
 have HB := hid H
 clear H
 have HE : Hid (snip 18 (n : Int) st = bAdd [iOne 3, iAt 5 3] st) := hid (rfl)
 go_enter Tryz.func65, Tryz.ntmps65
 try simp only [List.append_eq, List.cons_append, List.nil_append]
 go_wp2_with fail
 refine (at_x _ _ _).mono ?_
 rintro e w1 ⟨rfl, hb⟩
 replace HB := hid (HB.out.next hb)
 clear hb c0 q0
 replace HB := hid (HB.out.lit (.cells #[.int .i64 4, .int .i32 0, .int .i64 3, .string ⟨#[]⟩, .string ⟨#[]⟩, .string ⟨#[]⟩, .string ⟨#[]⟩] 61))
 go_wp2_with ((first | (go_at_call 31; refine (one_x _ _).mono ?_) | (go_at_call 32; refine (at_x _ _ _).mono ?_)); rintro e w' ⟨rfl, hb⟩; (first | replace HB := hid (HB.out.next hb) | replace HB := hid ((HB.out.lit _).next hb)); clear hb)
 refine (add_s HB.out [iOne 3, iAt 5 3] _ rfl _ rfl (by simp [bAdd, bTry]; omega)).mono ?_
 rintro e w' ⟨rfl, H1⟩
 replace HB := hid H1
 clear H1
 go_wp2_with fail
 exact bodyPost_end (results_none rfl _ _ _) rfl ⟨rfl, by rw [HE.out]; exact HB.out⟩
theorem snip_19 : SnO 19 19 := by
 intro B bb st w0 w H n hn hl hl2
 obtain ⟨p, cap, q0, c0⟩ := H.len
 have HB := hid H
 clear H
 have HE : Hid (snip 19 (n : Int) st = bAdd [iAt 4 3, iCall 34 ⟨#[66, 97, 115, 101]⟩ ⟨#[114, 117, 110]⟩ ⟨#[40, 41, 73]⟩, iAt 5 0] st) := hid (rfl)
 go_enter Tryz.func65, Tryz.ntmps65
 try simp only [List.append_eq, List.cons_append, List.nil_append]
 go_wp2_with fail
 refine (at_x _ _ _).mono ?_
 rintro e w1 ⟨rfl, hb⟩
 replace HB := hid (HB.out.next hb)
 clear hb c0 q0
 have HT := hid (TC.made w1)
 replace HB := hid (HB.out.bt.lit (.cells #[.int .i64 4, .int .i32 0, .int .i64 3, .string ⟨#[]⟩, .string ⟨#[]⟩, .string ⟨#[]⟩, .string ⟨#[]⟩] 61))
 go_wp2_with fail
 obtain ⟨w2, hw2⟩ : ∃ x, x = w1.alloc (.cells #[.int .i64 4, .int .i32 0, .int .i64 3, .string ⟨#[]⟩, .string ⟨#[]⟩, .string ⟨#[]⟩, .string ⟨#[]⟩] 61) := ⟨_, rfl⟩
 obtain ⟨tb, htb⟩ : ∃ x, x = w1.heap.size := ⟨_, rfl⟩
 rw [<- hw2, <- htb] at HB HT
 try rw [<- hw2]
 try rw [<- htb]
 clear hw2 htb
 replace HB := hid (HB.out.next (below_dr w2))
 replace HT := hid (HT.out.next (below_dr w2))
 refine wp_region_held_drew (S := fun w' => w'.cell? ⟨tb, 0, none⟩ = some (.int .i64 4) /\ w'.cell? ⟨tb, 1, none⟩ = some (.int .i32 0) /\ w'.cell? ⟨tb, 2, none⟩ = some (.int .i64 3) /\ w'.cell? ⟨tb, 3, none⟩ = some (.string ⟨#[]⟩) /\ w'.cell? ⟨tb, 4, none⟩ = some (.string ⟨#[]⟩) /\ w'.cell? ⟨tb, 5, none⟩ = some (.string ⟨#[]⟩) /\ w'.cell? ⟨tb, 6, none⟩ = some (.string ⟨#[]⟩)) (by kernel_rfl) (z7c HT.out.2) (fun hh => ?_)
 refine tkA 0 _ hh ?_
 try go_frame
 refine tkB 1 _ hh ?_
 try go_frame
 refine rdH [2] ?_
 refine rcH (fun K hK => ?_) AllReadyH.nil
 clear hh
 go_simp
 refine (call_x _ _ _ _ _).mono ?_
 rintro e x2 ⟨rfl, hb⟩
 replace HB := hid (HB.out.next hb)
 replace HT := hid (HT.out.next hb)
 clear hb
 refine hK.out _ _ (z7c HT.out.2) (fun hh => ?_)
 clear hK K
 try go_frame
 refine rdH [3] ?_
 refine rcH (fun K hK => ?_) AllReadyH.nil
 clear hh
 go_simp
 refine (at_x _ _ _).mono ?_
 rintro e x3 ⟨rfl, hb⟩
 replace HB := hid (HB.out.next hb)
 replace HT := hid (HT.out.next hb)
 clear hb
 refine hK.out _ _ (z7c HT.out.2) (fun hh => ?_)
 clear hK K
 try go_frame
 refine rdH [4] ?_
 refine rcH (fun K hK => ?_) AllReadyH.nil
 clear hh
 go_simp
 refine hK.out _ _ (z7c (HT.out.next (below_al _ _)).2) (fun hh => ?_)
 clear hK K
 try go_frame
 refine rdH [5] ?_
 refine rcH (fun K hK => ?_) AllReadyH.nil
 clear hh
 go_simp
 refine (add_t HB.out [iAt 4 3, iCall 34 ⟨#[66, 97, 115, 101]⟩ ⟨#[114, 117, 110]⟩ ⟨#[40, 41, 73]⟩, iAt 5 0] _ rfl _ rfl (by simp [bAdd, bTry]; omega)).mono ?_
 rintro e w' ⟨rfl, H1, H2, H3⟩
 replace HT := hid ((HT.out.next (below_al _ _)).same H2 (H3 _ (by simp)))
 replace HB := hid H1
 clear H1 H2 H3
 refine hK.out _ _ (z7c HT.out.2) (fun hh => ?_)
 clear hK K
 try go_frame
 refine wpAnyH_done (by kernel_rfl) ?_ _
 replace HB := hid HB.out.bs
 clear HT
 go_wp2_with fail
 exact bodyPost_end (results_none rfl _ _ _) rfl ⟨rfl, by rw [HE.out]; exact HB.out⟩
theorem snip_20 : SnO 20 20 := by
 intro B bb st w0 w H n hn hl hl2
 obtain ⟨p, cap, q0, c0⟩ := H.len
 have HB := hid H
 clear H
 have HE : Hid (snip 20 (n : Int) st = bAdd [iAt 4 3, iOf 30 ⟨#[73]⟩, iAt 5 4] st) := hid (rfl)
 go_enter Tryz.func65, Tryz.ntmps65
 try simp only [List.append_eq, List.cons_append, List.nil_append]
 go_wp2_with fail
 refine (at_x _ _ _).mono ?_
 rintro e w1 ⟨rfl, hb⟩
 replace HB := hid (HB.out.next hb)
 clear hb c0 q0
 have HT := hid (TC.made w1)
 replace HB := hid (HB.out.bt.lit (.cells #[.int .i64 4, .int .i32 0, .int .i64 3, .string ⟨#[]⟩, .string ⟨#[]⟩, .string ⟨#[]⟩, .string ⟨#[]⟩] 61))
 go_wp2_with fail
 obtain ⟨w2, hw2⟩ : ∃ x, x = w1.alloc (.cells #[.int .i64 4, .int .i32 0, .int .i64 3, .string ⟨#[]⟩, .string ⟨#[]⟩, .string ⟨#[]⟩, .string ⟨#[]⟩] 61) := ⟨_, rfl⟩
 obtain ⟨tb, htb⟩ : ∃ x, x = w1.heap.size := ⟨_, rfl⟩
 rw [<- hw2, <- htb] at HB HT
 try rw [<- hw2]
 try rw [<- htb]
 clear hw2 htb
 replace HB := hid (HB.out.next (below_dr w2))
 replace HT := hid (HT.out.next (below_dr w2))
 refine wp_region_held_drew (S := fun w' => w'.cell? ⟨tb, 0, none⟩ = some (.int .i64 4) /\ w'.cell? ⟨tb, 1, none⟩ = some (.int .i32 0) /\ w'.cell? ⟨tb, 2, none⟩ = some (.int .i64 3) /\ w'.cell? ⟨tb, 3, none⟩ = some (.string ⟨#[]⟩) /\ w'.cell? ⟨tb, 4, none⟩ = some (.string ⟨#[]⟩) /\ w'.cell? ⟨tb, 5, none⟩ = some (.string ⟨#[]⟩) /\ w'.cell? ⟨tb, 6, none⟩ = some (.string ⟨#[]⟩)) (by kernel_rfl) (z7c HT.out.2) (fun hh => ?_)
 refine tkA 0 _ hh ?_
 try go_frame
 refine tkB 1 _ hh ?_
 try go_frame
 refine rdH [2] ?_
 refine rcH (fun K hK => ?_) AllReadyH.nil
 clear hh
 go_simp
 refine (of_x _ _ _).mono ?_
 rintro e x2 ⟨rfl, hb⟩
 replace HB := hid (HB.out.next hb)
 replace HT := hid (HT.out.next hb)
 clear hb
 refine hK.out _ _ (z7c HT.out.2) (fun hh => ?_)
 clear hK K
 try go_frame
 refine rdH [3] ?_
 refine rcH (fun K hK => ?_) AllReadyH.nil
 clear hh
 go_simp
 refine (at_x _ _ _).mono ?_
 rintro e x3 ⟨rfl, hb⟩
 replace HB := hid (HB.out.next hb)
 replace HT := hid (HT.out.next hb)
 clear hb
 refine hK.out _ _ (z7c HT.out.2) (fun hh => ?_)
 clear hK K
 try go_frame
 refine rdH [4] ?_
 refine rcH (fun K hK => ?_) AllReadyH.nil
 clear hh
 go_simp
 refine hK.out _ _ (z7c (HT.out.next (below_al _ _)).2) (fun hh => ?_)
 clear hK K
 try go_frame
 refine rdH [5] ?_
 refine rcH (fun K hK => ?_) AllReadyH.nil
 clear hh
 go_simp
 refine (add_t HB.out [iAt 4 3, iOf 30 ⟨#[73]⟩, iAt 5 4] _ rfl _ rfl (by simp [bAdd, bTry]; omega)).mono ?_
 rintro e w' ⟨rfl, H1, H2, H3⟩
 replace HT := hid ((HT.out.next (below_al _ _)).same H2 (H3 _ (by simp)))
 replace HB := hid H1
 clear H1 H2 H3
 refine hK.out _ _ (z7c HT.out.2) (fun hh => ?_)
 clear hK K
 try go_frame
 refine wpAnyH_done (by kernel_rfl) ?_ _
 replace HB := hid HB.out.bs
 clear HT
 go_wp2_with fail
 exact bodyPost_end (results_none rfl _ _ _) rfl ⟨rfl, by rw [HE.out]; exact HB.out⟩
theorem snip_21 : SnO 21 21 := by
 intro B bb st w0 w H n hn hl hl2
 obtain ⟨p, cap, q0, c0⟩ := H.len
 have HB := hid H
 clear H
 have HE : Hid (snip 21 (n : Int) st = bTry st.1.length ⟨#[78, 117, 108, 108, 70, 97, 117, 108, 116]⟩ ⟨#[110, 117, 108, 108]⟩ (bAdd [iAt 4 4, iCall 35 ⟨#[73]⟩ ⟨#[114, 117, 110]⟩ ⟨#[40, 41, 73]⟩, iAt 5 0] st)) := hid (rfl)
 go_enter Tryz.func65, Tryz.ntmps65
 try simp only [List.append_eq, List.cons_append, List.nil_append]
 go_wp2_with fail
 refine (at_x _ _ _).mono ?_
 rintro e w1 ⟨rfl, hb⟩
 replace HB := hid (HB.out.next hb)
 clear hb c0 q0
 replace HB := hid (HB.out.lit (.cells #[.int .i64 4, .int .i32 0, .int .i64 3, .string ⟨#[]⟩, .string ⟨#[]⟩, .string ⟨#[]⟩, .string ⟨#[]⟩] 61))
 go_wp2_with ((first | (go_at_call 32; refine (at_x _ _ _).mono ?_) | (go_at_call 67; refine (call_x _ _ _ _ _).mono ?_)); rintro e w' ⟨rfl, hb⟩; (first | replace HB := hid (HB.out.next hb) | replace HB := hid ((HB.out.lit _).next hb)); clear hb)
 refine (add_s HB.out [iAt 4 4, iCall 35 ⟨#[73]⟩ ⟨#[114, 117, 110]⟩ ⟨#[40, 41, 73]⟩, iAt 5 0] _ rfl _ rfl (by simp [bAdd, bTry]; omega)).mono ?_
 rintro e w' ⟨rfl, H1⟩
 replace HB := hid H1
 clear H1
 go_wp2_with (fail)
 refine (try_s HB.out st.1.length ⟨#[78, 117, 108, 108, 70, 97, 117, 108, 116]⟩ ⟨#[110, 117, 108, 108]⟩ (by omega) (by simp [bAdd, bTry]; omega) (by simp [bAdd, bTry]; omega)).mono ?_
 rintro e w' ⟨rfl, H1⟩
 replace HB := hid H1
 clear H1
 go_wp2_with fail
 exact bodyPost_end (results_none rfl _ _ _) rfl ⟨rfl, by rw [HE.out]; exact HB.out⟩
theorem snip_22 : SnO 22 22 := by
 intro B bb st w0 w H n hn hl hl2
 obtain ⟨p, cap, q0, c0⟩ := H.len
 have HB := hid H
 clear H
 have HE : Hid (snip 22 (n : Int) st = bAdd [iAt 4 3, iCall 34 ⟨#[66, 97, 115, 101]⟩ ⟨#[110, 97, 109, 101]⟩ ⟨#[40, 41, 83]⟩, iOne 41] st) := hid (rfl)
 go_enter Tryz.func65, Tryz.ntmps65
 try simp only [List.append_eq, List.cons_append, List.nil_append]
 go_wp2_with fail
 refine (at_x _ _ _).mono ?_
 rintro e w1 ⟨rfl, hb⟩
 replace HB := hid (HB.out.next hb)
 clear hb c0 q0
 have HT := hid (TC.made w1)
 replace HB := hid (HB.out.bt.lit (.cells #[.int .i64 4, .int .i32 0, .int .i64 3, .string ⟨#[]⟩, .string ⟨#[]⟩, .string ⟨#[]⟩, .string ⟨#[]⟩] 61))
 go_wp2_with fail
 obtain ⟨w2, hw2⟩ : ∃ x, x = w1.alloc (.cells #[.int .i64 4, .int .i32 0, .int .i64 3, .string ⟨#[]⟩, .string ⟨#[]⟩, .string ⟨#[]⟩, .string ⟨#[]⟩] 61) := ⟨_, rfl⟩
 obtain ⟨tb, htb⟩ : ∃ x, x = w1.heap.size := ⟨_, rfl⟩
 rw [<- hw2, <- htb] at HB HT
 try rw [<- hw2]
 try rw [<- htb]
 clear hw2 htb
 replace HB := hid (HB.out.next (below_dr w2))
 replace HT := hid (HT.out.next (below_dr w2))
 refine wp_region_held_drew (S := fun w' => w'.cell? ⟨tb, 0, none⟩ = some (.int .i64 4) /\ w'.cell? ⟨tb, 1, none⟩ = some (.int .i32 0) /\ w'.cell? ⟨tb, 2, none⟩ = some (.int .i64 3) /\ w'.cell? ⟨tb, 3, none⟩ = some (.string ⟨#[]⟩) /\ w'.cell? ⟨tb, 4, none⟩ = some (.string ⟨#[]⟩) /\ w'.cell? ⟨tb, 5, none⟩ = some (.string ⟨#[]⟩) /\ w'.cell? ⟨tb, 6, none⟩ = some (.string ⟨#[]⟩)) (by kernel_rfl) (z7c HT.out.2) (fun hh => ?_)
 refine tkA 0 _ hh ?_
 try go_frame
 refine tkB 1 _ hh ?_
 try go_frame
 refine rdH [2] ?_
 refine rcH (fun K hK => ?_) AllReadyH.nil
 clear hh
 go_simp
 refine (call_x _ _ _ _ _).mono ?_
 rintro e x2 ⟨rfl, hb⟩
 replace HB := hid (HB.out.next hb)
 replace HT := hid (HT.out.next hb)
 clear hb
 refine hK.out _ _ (z7c HT.out.2) (fun hh => ?_)
 clear hK K
 try go_frame
 refine rdH [3] ?_
 refine rcH (fun K hK => ?_) AllReadyH.nil
 clear hh
 go_simp
 refine (one_x _ _).mono ?_
 rintro e x3 ⟨rfl, hb⟩
 replace HB := hid (HB.out.next hb)
 replace HT := hid (HT.out.next hb)
 clear hb
 refine hK.out _ _ (z7c HT.out.2) (fun hh => ?_)
 clear hK K
 try go_frame
 refine rdH [4] ?_
 refine rcH (fun K hK => ?_) AllReadyH.nil
 clear hh
 go_simp
 refine hK.out _ _ (z7c (HT.out.next (below_al _ _)).2) (fun hh => ?_)
 clear hK K
 try go_frame
 refine rdH [5] ?_
 refine rcH (fun K hK => ?_) AllReadyH.nil
 clear hh
 go_simp
 refine (add_t HB.out [iAt 4 3, iCall 34 ⟨#[66, 97, 115, 101]⟩ ⟨#[110, 97, 109, 101]⟩ ⟨#[40, 41, 83]⟩, iOne 41] _ rfl _ rfl (by simp [bAdd, bTry]; omega)).mono ?_
 rintro e w' ⟨rfl, H1, H2, H3⟩
 replace HT := hid ((HT.out.next (below_al _ _)).same H2 (H3 _ (by simp)))
 replace HB := hid H1
 clear H1 H2 H3
 refine hK.out _ _ (z7c HT.out.2) (fun hh => ?_)
 clear hK K
 try go_frame
 refine wpAnyH_done (by kernel_rfl) ?_ _
 replace HB := hid HB.out.bs
 clear HT
 go_wp2_with fail
 exact bodyPost_end (results_none rfl _ _ _) rfl ⟨rfl, by rw [HE.out]; exact HB.out⟩
theorem snip_23 : SnO 23 23 := by
 intro B bb st w0 w H n hn hl hl2
 obtain ⟨p, cap, q0, c0⟩ := H.len
 have HB := hid H
 clear H
 have HE : Hid (snip 23 (n : Int) st = bAdd [iAt 4 3, iAt 4 0, iPart 27 ⟨#[66, 97, 115, 101]⟩ ⟨#[120]⟩] st) := hid (rfl)
 go_enter Tryz.func65, Tryz.ntmps65
 try simp only [List.append_eq, List.cons_append, List.nil_append]
 go_wp2_with fail
 refine (at_x _ _ _).mono ?_
 rintro e w1 ⟨rfl, hb⟩
 replace HB := hid (HB.out.next hb)
 clear hb c0 q0
 have HT := hid (TC.made w1)
 replace HB := hid (HB.out.bt.lit (.cells #[.int .i64 4, .int .i32 0, .int .i64 3, .string ⟨#[]⟩, .string ⟨#[]⟩, .string ⟨#[]⟩, .string ⟨#[]⟩] 61))
 go_wp2_with fail
 obtain ⟨w2, hw2⟩ : ∃ x, x = w1.alloc (.cells #[.int .i64 4, .int .i32 0, .int .i64 3, .string ⟨#[]⟩, .string ⟨#[]⟩, .string ⟨#[]⟩, .string ⟨#[]⟩] 61) := ⟨_, rfl⟩
 obtain ⟨tb, htb⟩ : ∃ x, x = w1.heap.size := ⟨_, rfl⟩
 rw [<- hw2, <- htb] at HB HT
 try rw [<- hw2]
 try rw [<- htb]
 clear hw2 htb
 replace HB := hid (HB.out.next (below_dr w2))
 replace HT := hid (HT.out.next (below_dr w2))
 refine wp_region_held_drew (S := fun w' => w'.cell? ⟨tb, 0, none⟩ = some (.int .i64 4) /\ w'.cell? ⟨tb, 1, none⟩ = some (.int .i32 0) /\ w'.cell? ⟨tb, 2, none⟩ = some (.int .i64 3) /\ w'.cell? ⟨tb, 3, none⟩ = some (.string ⟨#[]⟩) /\ w'.cell? ⟨tb, 4, none⟩ = some (.string ⟨#[]⟩) /\ w'.cell? ⟨tb, 5, none⟩ = some (.string ⟨#[]⟩) /\ w'.cell? ⟨tb, 6, none⟩ = some (.string ⟨#[]⟩)) (by kernel_rfl) (z7c HT.out.2) (fun hh => ?_)
 refine tkA 0 _ hh ?_
 try go_frame
 refine tkB 1 _ hh ?_
 try go_frame
 refine rdH [2] ?_
 refine rcH (fun K hK => ?_) AllReadyH.nil
 clear hh
 go_simp
 refine (at_x _ _ _).mono ?_
 rintro e x2 ⟨rfl, hb⟩
 replace HB := hid (HB.out.next hb)
 replace HT := hid (HT.out.next hb)
 clear hb
 refine hK.out _ _ (z7c HT.out.2) (fun hh => ?_)
 clear hK K
 try go_frame
 refine rdH [3] ?_
 refine rcH (fun K hK => ?_) AllReadyH.nil
 clear hh
 go_simp
 refine (part_x _ _ _ _).mono ?_
 rintro e x3 ⟨rfl, hb⟩
 replace HB := hid (HB.out.next hb)
 replace HT := hid (HT.out.next hb)
 clear hb
 refine hK.out _ _ (z7c HT.out.2) (fun hh => ?_)
 clear hK K
 try go_frame
 refine rdH [4] ?_
 refine rcH (fun K hK => ?_) AllReadyH.nil
 clear hh
 go_simp
 refine hK.out _ _ (z7c (HT.out.next (below_al _ _)).2) (fun hh => ?_)
 clear hK K
 try go_frame
 refine rdH [5] ?_
 refine rcH (fun K hK => ?_) AllReadyH.nil
 clear hh
 go_simp
 refine (add_t HB.out [iAt 4 3, iAt 4 0, iPart 27 ⟨#[66, 97, 115, 101]⟩ ⟨#[120]⟩] _ rfl _ rfl (by simp [bAdd, bTry]; omega)).mono ?_
 rintro e w' ⟨rfl, H1, H2, H3⟩
 replace HT := hid ((HT.out.next (below_al _ _)).same H2 (H3 _ (by simp)))
 replace HB := hid H1
 clear H1 H2 H3
 refine hK.out _ _ (z7c HT.out.2) (fun hh => ?_)
 clear hK K
 try go_frame
 refine wpAnyH_done (by kernel_rfl) ?_ _
 replace HB := hid HB.out.bs
 clear HT
 go_wp2_with fail
 exact bodyPost_end (results_none rfl _ _ _) rfl ⟨rfl, by rw [HE.out]; exact HB.out⟩
theorem snip_24 : SnO 24 24 := by
 intro B bb st w0 w H n hn hl hl2
 obtain ⟨p, cap, q0, c0⟩ := H.len
 have HB := hid H
 clear H
 have HE : Hid (snip 24 (n : Int) st = bAdd [iAt 4 3, iPart 26 ⟨#[66, 97, 115, 101]⟩ ⟨#[120]⟩, iAt 5 0] st) := hid (rfl)
 go_enter Tryz.func65, Tryz.ntmps65
 try simp only [List.append_eq, List.cons_append, List.nil_append]
 go_wp2_with fail
 refine (at_x _ _ _).mono ?_
 rintro e w1 ⟨rfl, hb⟩
 replace HB := hid (HB.out.next hb)
 clear hb c0 q0
 have HT := hid (TC.made w1)
 replace HB := hid (HB.out.bt.lit (.cells #[.int .i64 4, .int .i32 0, .int .i64 3, .string ⟨#[]⟩, .string ⟨#[]⟩, .string ⟨#[]⟩, .string ⟨#[]⟩] 61))
 go_wp2_with fail
 obtain ⟨w2, hw2⟩ : ∃ x, x = w1.alloc (.cells #[.int .i64 4, .int .i32 0, .int .i64 3, .string ⟨#[]⟩, .string ⟨#[]⟩, .string ⟨#[]⟩, .string ⟨#[]⟩] 61) := ⟨_, rfl⟩
 obtain ⟨tb, htb⟩ : ∃ x, x = w1.heap.size := ⟨_, rfl⟩
 rw [<- hw2, <- htb] at HB HT
 try rw [<- hw2]
 try rw [<- htb]
 clear hw2 htb
 replace HB := hid (HB.out.next (below_dr w2))
 replace HT := hid (HT.out.next (below_dr w2))
 refine wp_region_held_drew (S := fun w' => w'.cell? ⟨tb, 0, none⟩ = some (.int .i64 4) /\ w'.cell? ⟨tb, 1, none⟩ = some (.int .i32 0) /\ w'.cell? ⟨tb, 2, none⟩ = some (.int .i64 3) /\ w'.cell? ⟨tb, 3, none⟩ = some (.string ⟨#[]⟩) /\ w'.cell? ⟨tb, 4, none⟩ = some (.string ⟨#[]⟩) /\ w'.cell? ⟨tb, 5, none⟩ = some (.string ⟨#[]⟩) /\ w'.cell? ⟨tb, 6, none⟩ = some (.string ⟨#[]⟩)) (by kernel_rfl) (z7c HT.out.2) (fun hh => ?_)
 refine tkA 0 _ hh ?_
 try go_frame
 refine tkB 1 _ hh ?_
 try go_frame
 refine rdH [2] ?_
 refine rcH (fun K hK => ?_) AllReadyH.nil
 clear hh
 go_simp
 refine (part_x _ _ _ _).mono ?_
 rintro e x2 ⟨rfl, hb⟩
 replace HB := hid (HB.out.next hb)
 replace HT := hid (HT.out.next hb)
 clear hb
 refine hK.out _ _ (z7c HT.out.2) (fun hh => ?_)
 clear hK K
 try go_frame
 refine rdH [3] ?_
 refine rcH (fun K hK => ?_) AllReadyH.nil
 clear hh
 go_simp
 refine (at_x _ _ _).mono ?_
 rintro e x3 ⟨rfl, hb⟩
 replace HB := hid (HB.out.next hb)
 replace HT := hid (HT.out.next hb)
 clear hb
 refine hK.out _ _ (z7c HT.out.2) (fun hh => ?_)
 clear hK K
 try go_frame
 refine rdH [4] ?_
 refine rcH (fun K hK => ?_) AllReadyH.nil
 clear hh
 go_simp
 refine hK.out _ _ (z7c (HT.out.next (below_al _ _)).2) (fun hh => ?_)
 clear hK K
 try go_frame
 refine rdH [5] ?_
 refine rcH (fun K hK => ?_) AllReadyH.nil
 clear hh
 go_simp
 refine (add_t HB.out [iAt 4 3, iPart 26 ⟨#[66, 97, 115, 101]⟩ ⟨#[120]⟩, iAt 5 0] _ rfl _ rfl (by simp [bAdd, bTry]; omega)).mono ?_
 rintro e w' ⟨rfl, H1, H2, H3⟩
 replace HT := hid ((HT.out.next (below_al _ _)).same H2 (H3 _ (by simp)))
 replace HB := hid H1
 clear H1 H2 H3
 refine hK.out _ _ (z7c HT.out.2) (fun hh => ?_)
 clear hK K
 try go_frame
 refine wpAnyH_done (by kernel_rfl) ?_ _
 replace HB := hid HB.out.bs
 clear HT
 go_wp2_with fail
 exact bodyPost_end (results_none rfl _ _ _) rfl ⟨rfl, by rw [HE.out]; exact HB.out⟩
theorem snip_25 : SnO 25 25 := by
 intro B bb st w0 w H n hn hl hl2
 obtain ⟨p, cap, q0, c0⟩ := H.len
 have HB := hid H
 clear H
 have HE : Hid (snip 25 (n : Int) st = bAdd [iAt 4 3, iNum (n : Int), iPart 27 ⟨#[66, 97, 115, 101]⟩ ⟨#[119]⟩] st) := hid (rfl)
 go_enter Tryz.func65, Tryz.ntmps65
 try simp only [List.append_eq, List.cons_append, List.nil_append]
 go_wp2_with fail
 refine (at_x _ _ _).mono ?_
 rintro e w1 ⟨rfl, hb⟩
 replace HB := hid (HB.out.next hb)
 clear hb c0 q0
 have HT := hid (TC.made w1)
 replace HB := hid (HB.out.bt.lit (.cells #[.int .i64 4, .int .i32 0, .int .i64 3, .string ⟨#[]⟩, .string ⟨#[]⟩, .string ⟨#[]⟩, .string ⟨#[]⟩] 61))
 go_wp2_with fail
 obtain ⟨w2, hw2⟩ : ∃ x, x = w1.alloc (.cells #[.int .i64 4, .int .i32 0, .int .i64 3, .string ⟨#[]⟩, .string ⟨#[]⟩, .string ⟨#[]⟩, .string ⟨#[]⟩] 61) := ⟨_, rfl⟩
 obtain ⟨tb, htb⟩ : ∃ x, x = w1.heap.size := ⟨_, rfl⟩
 rw [<- hw2, <- htb] at HB HT
 try rw [<- hw2]
 try rw [<- htb]
 clear hw2 htb
 replace HB := hid (HB.out.next (below_dr w2))
 replace HT := hid (HT.out.next (below_dr w2))
 refine wp_region_held_drew (S := fun w' => w'.cell? ⟨tb, 0, none⟩ = some (.int .i64 4) /\ w'.cell? ⟨tb, 1, none⟩ = some (.int .i32 0) /\ w'.cell? ⟨tb, 2, none⟩ = some (.int .i64 3) /\ w'.cell? ⟨tb, 3, none⟩ = some (.string ⟨#[]⟩) /\ w'.cell? ⟨tb, 4, none⟩ = some (.string ⟨#[]⟩) /\ w'.cell? ⟨tb, 5, none⟩ = some (.string ⟨#[]⟩) /\ w'.cell? ⟨tb, 6, none⟩ = some (.string ⟨#[]⟩)) (by kernel_rfl) (z7c HT.out.2) (fun hh => ?_)
 refine tkA 0 _ hh ?_
 try go_frame
 refine tkB 1 _ hh ?_
 try go_frame
 refine tkA 2 _ hh ?_
 try go_frame
 refine tkA 3 _ hh ?_
 try go_frame
 refine rdH [4] ?_
 refine rcH (fun K hK => ?_) AllReadyH.nil
 clear hh
 go_simp
 refine (num_y _ (n : Int) _ (by first | rfl | (simp only [IntKind.wrap_i64, Int.tmod_eq_emod_of_nonneg (Int.natCast_nonneg n)]; omega)) (by omega)).mono ?_
 rintro e x4 ⟨rfl, hb⟩
 replace HB := hid (HB.out.next hb)
 replace HT := hid (HT.out.next hb)
 clear hb
 refine hK.out _ _ (z7c HT.out.2) (fun hh => ?_)
 clear hK K
 try go_frame
 refine rdH [5] ?_
 refine rcH (fun K hK => ?_) AllReadyH.nil
 clear hh
 go_simp
 refine (part_x _ _ _ _).mono ?_
 rintro e x5 ⟨rfl, hb⟩
 replace HB := hid (HB.out.next hb)
 replace HT := hid (HT.out.next hb)
 clear hb
 refine hK.out _ _ (z7c HT.out.2) (fun hh => ?_)
 clear hK K
 try go_frame
 refine rdH [6] ?_
 refine rcH (fun K hK => ?_) AllReadyH.nil
 clear hh
 go_simp
 refine hK.out _ _ (z7c (HT.out.next (below_al _ _)).2) (fun hh => ?_)
 clear hK K
 try go_frame
 refine rdH [7] ?_
 refine rcH (fun K hK => ?_) AllReadyH.nil
 clear hh
 go_simp
 refine (add_t HB.out [iAt 4 3, iNum (n : Int), iPart 27 ⟨#[66, 97, 115, 101]⟩ ⟨#[119]⟩] _ rfl _ rfl (by simp [bAdd, bTry]; omega)).mono ?_
 rintro e w' ⟨rfl, H1, H2, H3⟩
 replace HT := hid ((HT.out.next (below_al _ _)).same H2 (H3 _ (by simp)))
 replace HB := hid H1
 clear H1 H2 H3
 refine hK.out _ _ (z7c HT.out.2) (fun hh => ?_)
 clear hK K
 try go_frame
 refine wpAnyH_done (by kernel_rfl) ?_ _
 replace HB := hid HB.out.bs
 clear HT
 go_wp2_with fail
 exact bodyPost_end (results_none rfl _ _ _) rfl ⟨rfl, by rw [HE.out]; exact HB.out⟩
theorem snip_26 : SnO 26 26 := by
 intro B bb st w0 w H n hn hl hl2
 obtain ⟨p, cap, q0, c0⟩ := H.len
 have HB := hid H
 clear H
 have HE : Hid (snip 26 (n : Int) st = bAdd [iPart 28 ⟨#[65]⟩ ⟨#[99, 111, 117, 110, 116]⟩, iNum 1, iOne 8, iPart 29 ⟨#[65]⟩ ⟨#[99, 111, 117, 110, 116]⟩] st) := hid (rfl)
 go_enter Tryz.func65, Tryz.ntmps65
 try simp only [List.append_eq, List.cons_append, List.nil_append]
 go_wp2_with fail
 refine (at_x _ _ _).mono ?_
 rintro e w1 ⟨rfl, hb⟩
 replace HB := hid (HB.out.next hb)
 clear hb c0 q0
 replace HB := hid (HB.out.lit (.cells #[.int .i64 4, .int .i32 0, .int .i64 3, .string ⟨#[]⟩, .string ⟨#[]⟩, .string ⟨#[]⟩, .string ⟨#[]⟩] 61))
 go_wp2_with ((first | (go_at_call 31; refine (one_x _ _).mono ?_) | (go_at_call 62; refine (num_x _ _ (by omega)).mono ?_) | (go_at_call 68; refine (part_x _ _ _ _).mono ?_)); rintro e w' ⟨rfl, hb⟩; (first | replace HB := hid (HB.out.next hb) | replace HB := hid ((HB.out.lit _).next hb)); clear hb)
 refine (add_s HB.out [iPart 28 ⟨#[65]⟩ ⟨#[99, 111, 117, 110, 116]⟩, iNum 1, iOne 8, iPart 29 ⟨#[65]⟩ ⟨#[99, 111, 117, 110, 116]⟩] _ rfl _ rfl (by simp [bAdd, bTry]; omega)).mono ?_
 rintro e w' ⟨rfl, H1⟩
 replace HB := hid H1
 clear H1
 go_wp2_with fail
 exact bodyPost_end (results_none rfl _ _ _) rfl ⟨rfl, by rw [HE.out]; exact HB.out⟩
theorem snip_27 : SnO 27 27 := by
 intro B bb st w0 w H n hn hl hl2
 obtain ⟨p, cap, q0, c0⟩ := H.len
 have HB := hid H
 clear H
 have hq : 0 <= (n : Int).tmod 2 /\ (n : Int).tmod 2 < 2 := by rw [Int.tmod_eq_emod_of_nonneg (Int.natCast_nonneg n)]; omega
 have hcv : (#[.string ⟨#[85, 116, 105, 108]⟩, .string ⟨#[68]⟩] : Array Value)[((n : Int).tmod 2).toNat]? = some (.string (selT (n : Int) 2 [⟨#[85, 116, 105, 108]⟩, ⟨#[68]⟩])) := by
  rw [Int.tmod_eq_emod_of_nonneg (Int.natCast_nonneg n)]; unfold selT
  obtain ⟨j, hj, h⟩ : ∃ j : Nat, j < 2 /\ (n : Int) % 2 = (j : Int) := ⟨n % 2, by omega, by omega⟩
  rw [h]
  match j, hj with
  | 0, _ => rfl
  | 1, _ => rfl
 have HCV := hid hcv
 clear hcv
 have HE : Hid (snip 27 (n : Int) st = bAdd [iAt 4 0, iPart 29 (selT (n : Int) 2 [⟨#[85, 116, 105, 108]⟩, ⟨#[68]⟩]) ⟨#[119, 97, 115, 116, 101]⟩] st) := hid (rfl)
 go_enter Tryz.func65, Tryz.ntmps65
 try simp only [List.append_eq, List.cons_append, List.nil_append]
 go_wp2_with fail
 refine (at_x _ _ _).mono ?_
 rintro e w1 ⟨rfl, hb⟩
 replace HB := hid (HB.out.next hb)
 clear hb c0 q0
 have HT := hid (TC.made w1)
 replace HB := hid (HB.out.bt.lit (.cells #[.int .i64 4, .int .i32 0, .int .i64 3, .string ⟨#[]⟩, .string ⟨#[]⟩, .string ⟨#[]⟩, .string ⟨#[]⟩] 61))
 go_wp2_with fail
 obtain ⟨w2, hw2⟩ : ∃ x, x = w1.alloc (.cells #[.int .i64 4, .int .i32 0, .int .i64 3, .string ⟨#[]⟩, .string ⟨#[]⟩, .string ⟨#[]⟩, .string ⟨#[]⟩] 61) := ⟨_, rfl⟩
 obtain ⟨tb, htb⟩ : ∃ x, x = w1.heap.size := ⟨_, rfl⟩
 rw [<- hw2, <- htb] at HB HT
 try rw [<- hw2]
 try rw [<- htb]
 clear hw2 htb
 replace HB := hid (HB.out.next (below_dr w2))
 replace HT := hid (HT.out.next (below_dr w2))
 refine wp_region_held_drew (S := fun w' => w'.cell? ⟨tb, 0, none⟩ = some (.int .i64 4) /\ w'.cell? ⟨tb, 1, none⟩ = some (.int .i32 0) /\ w'.cell? ⟨tb, 2, none⟩ = some (.int .i64 3) /\ w'.cell? ⟨tb, 3, none⟩ = some (.string ⟨#[]⟩) /\ w'.cell? ⟨tb, 4, none⟩ = some (.string ⟨#[]⟩) /\ w'.cell? ⟨tb, 5, none⟩ = some (.string ⟨#[]⟩) /\ w'.cell? ⟨tb, 6, none⟩ = some (.string ⟨#[]⟩)) (by kernel_rfl) (z7c HT.out.2) (fun hh => ?_)
 refine tkA 0 _ hh ?_
 try go_frame
 refine tkA 3 _ hh ?_
 try go_frame
 refine tkA 4 _ hh ?_
 try go_frame
 refine rdH [1, 2] ?_
 refine rcH (fun K hK => ?_) ?_
 ·clear hh
  go_simp
  refine (at_x _ _ _).mono ?_
  rintro e x1 ⟨rfl, hb⟩
  replace HB := hid (HB.out.next hb)
  replace HT := hid (HT.out.next hb)
  clear hb
  refine hK.out _ _ (z7c HT.out.2) (fun hh => ?_)
  clear hK K
  try go_frame
  refine rdH [2] ?_
  refine rcH (fun K hK => ?_) AllReadyH.nil
  clear hh
  go_simp
  replace HB := hid (HB.out.lit (.cells #[.string ⟨#[85, 116, 105, 108]⟩, .string ⟨#[68]⟩] 9))
  replace HT := hid (HT.out.next (below_al _ (.cells #[.string ⟨#[85, 116, 105, 108]⟩, .string ⟨#[68]⟩] 9)))
  have HV := hid (CV.made (w := x1) (cs := #[.string ⟨#[85, 116, 105, 108]⟩, .string ⟨#[68]⟩]) (T := 9) (i := ((n : Int).tmod 2).toNat) (v := .string (selT (n : Int) 2 [⟨#[85, 116, 105, 108]⟩, ⟨#[68]⟩])) HCV.out)
  refine hK.out _ _ (z7c HT.out.2) (fun hh => ?_)
  clear hK K
  try go_frame
  refine tkA 5 _ hh ?_
  try go_frame
  refine wpAnyH_and (T := fun W => W.cell? ⟨x1.heap.size, ((n : Int).tmod 2).toNat, none⟩ = some (.string (selT (n : Int) 2 [⟨#[85, 116, 105, 108]⟩, ⟨#[68]⟩]))) _ _ _ _ ?_
  replace hh := And.intro hh (HV.out.2)
  refine tkH 6 ?_ (fun W hSw => ?_) hh ?_
  rotate_left 1
  ·(have hT := hSw.2; clear hSw; first | (go_simp; done) | (go_simp; with_reducible rfl))
  try go_frame
  refine rdH [7] ?_
  refine rcH (fun K hK => ?_) AllReadyH.nil
  clear hh
  go_simp
  refine (part_x _ _ _ _).mono ?_
  rintro e x7 ⟨rfl, hb⟩
  replace HB := hid (HB.out.next hb)
  replace HT := hid (HT.out.next hb)
  replace HV := hid (HV.out.next hb)
  clear hb
  refine hK.out _ _ ⟨(z7c HT.out.2), HV.out.2⟩ (fun hh => ?_)
  clear hK K
  try go_frame
  refine rdH [8] ?_
  refine rcH (fun K hK => ?_) AllReadyH.nil
  clear hh
  go_simp
  refine hK.out _ _ ⟨(z7c (HT.out.next (below_al _ _)).2), (HV.out.next (below_al _ _)).2⟩ (fun hh => ?_)
  clear hK K
  try go_frame
  refine rdH [9] ?_
  refine rcH (fun K hK => ?_) AllReadyH.nil
  clear hh
  go_simp
  refine (add_t HB.out [iAt 4 0, iPart 29 (selT (n : Int) 2 [⟨#[85, 116, 105, 108]⟩, ⟨#[68]⟩]) ⟨#[119, 97, 115, 116, 101]⟩] _ rfl _ rfl (by simp [bAdd, bTry]; omega)).mono ?_
  rintro e w' ⟨rfl, H1, H2, H3⟩
  replace HT := hid ((HT.out.next (below_al _ _)).same H2 (H3 _ (by simp)))
  replace HV := hid ((HV.out.next (below_al _ _)).same H2 (H3 _ (by simp)))
  replace HB := hid H1
  clear H1 H2 H3
  refine hK.out _ _ ⟨(z7c HT.out.2), HV.out.2⟩ (fun hh => ?_)
  clear hK K
  try go_frame
  refine wpAnyH_done (by kernel_rfl) ?_ _
  replace HB := hid HB.out.bs
  clear HT
  clear HV
  go_wp2_with fail
  exact bodyPost_end (results_none rfl _ _ _) rfl ⟨rfl, by rw [HE.out]; exact HB.out⟩
 refine rcH (fun K hK => ?_) AllReadyH.nil
 clear hh
 go_simp
 replace HB := hid (HB.out.lit (.cells #[.string ⟨#[85, 116, 105, 108]⟩, .string ⟨#[68]⟩] 9))
 replace HT := hid (HT.out.next (below_al _ (.cells #[.string ⟨#[85, 116, 105, 108]⟩, .string ⟨#[68]⟩] 9)))
 have HV := hid (CV.made (w := w2.drew) (cs := #[.string ⟨#[85, 116, 105, 108]⟩, .string ⟨#[68]⟩]) (T := 9) (i := ((n : Int).tmod 2).toNat) (v := .string (selT (n : Int) 2 [⟨#[85, 116, 105, 108]⟩, ⟨#[68]⟩])) HCV.out)
 refine hK.out _ _ (z7c HT.out.2) (fun hh => ?_)
 clear hK K
 try go_frame
 refine tkA 5 _ hh ?_
 try go_frame
 refine wpAnyH_and (T := fun W => W.cell? ⟨w2.heap.size, ((n : Int).tmod 2).toNat, none⟩ = some (.string (selT (n : Int) 2 [⟨#[85, 116, 105, 108]⟩, ⟨#[68]⟩]))) _ _ _ _ ?_
 replace hh := And.intro hh (HV.out.2)
 refine tkH 6 ?_ (fun W hSw => ?_) hh ?_
 rotate_left 1
 ·(have hT := hSw.2; clear hSw; first | (go_simp; done) | (go_simp; with_reducible rfl))
 try go_frame
 refine rdH [1] ?_
 refine rcH (fun K hK => ?_) AllReadyH.nil
 clear hh
 go_simp
 refine (at_x _ _ _).mono ?_
 rintro e x1 ⟨rfl, hb⟩
 replace HB := hid (HB.out.next hb)
 replace HT := hid (HT.out.next hb)
 replace HV := hid (HV.out.next hb)
 clear hb
 refine hK.out _ _ ⟨(z7c HT.out.2), HV.out.2⟩ (fun hh => ?_)
 clear hK K
 try go_frame
 refine rdH [7] ?_
 refine rcH (fun K hK => ?_) AllReadyH.nil
 clear hh
 go_simp
 refine (part_x _ _ _ _).mono ?_
 rintro e x7 ⟨rfl, hb⟩
 replace HB := hid (HB.out.next hb)
 replace HT := hid (HT.out.next hb)
 replace HV := hid (HV.out.next hb)
 clear hb
 refine hK.out _ _ ⟨(z7c HT.out.2), HV.out.2⟩ (fun hh => ?_)
 clear hK K
 try go_frame
 refine rdH [8] ?_
 refine rcH (fun K hK => ?_) AllReadyH.nil
 clear hh
 go_simp
 refine hK.out _ _ ⟨(z7c (HT.out.next (below_al _ _)).2), (HV.out.next (below_al _ _)).2⟩ (fun hh => ?_)
 clear hK K
 try go_frame
 refine rdH [9] ?_
 refine rcH (fun K hK => ?_) AllReadyH.nil
 clear hh
 go_simp
 refine (add_t HB.out [iAt 4 0, iPart 29 (selT (n : Int) 2 [⟨#[85, 116, 105, 108]⟩, ⟨#[68]⟩]) ⟨#[119, 97, 115, 116, 101]⟩] _ rfl _ rfl (by simp [bAdd, bTry]; omega)).mono ?_
 rintro e w' ⟨rfl, H1, H2, H3⟩
 replace HT := hid ((HT.out.next (below_al _ _)).same H2 (H3 _ (by simp)))
 replace HV := hid ((HV.out.next (below_al _ _)).same H2 (H3 _ (by simp)))
 replace HB := hid H1
 clear H1 H2 H3
 refine hK.out _ _ ⟨(z7c HT.out.2), HV.out.2⟩ (fun hh => ?_)
 clear hK K
 try go_frame
 refine wpAnyH_done (by kernel_rfl) ?_ _
 replace HB := hid HB.out.bs
 clear HT
 clear HV
 go_wp2_with fail
 exact bodyPost_end (results_none rfl _ _ _) rfl ⟨rfl, by rw [HE.out]; exact HB.out⟩
end Go.Proofs.YtijnimjmimeefaaGreat.A
