/- The law DescKeys answers true. -/
import Derived.Test.YtijbgbggmakfoaaDOf2
import Derived.Test.YtijbgbggmakfoaaDWrites
namespace Go.Proofs.Ytijbgbggmakfoaa
open Go.RowKit

/-- the method at block q -/
def MB (w : World) (q : Nat) (v : Value) (t : Ty) (st : Bool) (lo : Int) : Prop :=
  w.heap[q]? = some (.cells #[.string ⟨#[102]⟩, v, .int .i64 t.1, .string t.2, .bool st, .bool false, .int .i64 lo, .slice none 0 0, .slice none 0 0] 42 (0, 0))

theorem MB.below {w w' : World} {C q : Nat} {v : Value} {t : Ty} {st : Bool} {lo : Int} (h : MB w q v t st lo) (hb : Below C w w') (hq : q < C) : MB w' q v t st lo := (hb.block q hq).trans h
theorem MB.lt {w : World} {q : Nat} {v : Value} {t : Ty} {st : Bool} {lo : Int} (h : MB w q v t st lo) : q < w.heap.size := lt_of_block h
theorem MB.cells {w : World} {q : Nat} {v : Value} {t : Ty} {st : Bool} {lo : Int} (h : MB w q v t st lo) :
    w.cell? ⟨q, 0, none⟩ = some (.string ⟨#[102]⟩) ∧ w.cell? ⟨q, 1, none⟩ = some v ∧ w.cell? ⟨q, 2, none⟩ = some (.int .i64 t.1) ∧ w.cell? ⟨q, 3, none⟩ = some (.string t.2) ∧
    w.cell? ⟨q, 4, none⟩ = some (.bool st) ∧ w.cell? ⟨q, 5, none⟩ = some (.bool false) ∧ w.cell? ⟨q, 6, none⟩ = some (.int .i64 lo) ∧ w.cell? ⟨q, 7, none⟩ = some (.slice none 0 0) ∧ w.cell? ⟨q, 8, none⟩ = some (.slice none 0 0) :=
  ⟨Lib.cell_of_heap h 0, Lib.cell_of_heap h 1, Lib.cell_of_heap h 2, Lib.cell_of_heap h 3, Lib.cell_of_heap h 4, Lib.cell_of_heap h 5, Lib.cell_of_heap h 6, Lib.cell_of_heap h 7, Lib.cell_of_heap h 8⟩
theorem MB.frozen {w : World} {q : Nat} {v : Value} {t : Ty} {st : Bool} {lo : Int} (h : MB w q v t st lo) (j : Nat) : w.frozen? ⟨q, j, none⟩ = false := Lib.frozen_of_heap h j
theorem MB.set1 {w : World} {q : Nat} {v : Value} {t : Ty} {st : Bool} {lo : Int} (h : MB w q v t st lo) (u : Value) : MB (w.setCell ⟨q, 1, none⟩ u) q u t st lo := Joins.block_setCell h u
theorem MB.set2 {w : World} {q : Nat} {v : Value} {t : Ty} {st : Bool} {lo : Int} (h : MB w q v t st lo) (k : Int) : MB (w.setCell ⟨q, 2, none⟩ (.int .i64 k)) q v (k, t.2) st lo := Joins.block_setCell h _
theorem MB.set3 {w : World} {q : Nat} {v : Value} {t : Ty} {st : Bool} {lo : Int} (h : MB w q v t st lo) (c : ByteArray) : MB (w.setCell ⟨q, 3, none⟩ (.string c)) q v (t.1, c) st lo := Joins.block_setCell h _
theorem MB.set4 {w : World} {q : Nat} {v : Value} {t : Ty} {st : Bool} {lo : Int} (h : MB w q v t st lo) (b : Bool) : MB (w.setCell ⟨q, 4, none⟩ (.bool b)) q v t b lo := Joins.block_setCell h _
theorem MB.set6 {w : World} {q : Nat} {v : Value} {t : Ty} {st : Bool} {lo : Int} (h : MB w q v t st lo) (n : Int) : MB (w.setCell ⟨q, 6, none⟩ (.int .i64 n)) q v t st n := Joins.block_setCell h _
theorem MB.other {w : World} {q : Nat} {v : Value} {t : Ty} {st : Bool} {lo : Int} (h : MB w q v t st lo) {a : Addr} (ha : q ≠ a.block) (u : Value) : MB (w.setCell a u) q v t st lo := (Below.heap_setCell w a u q ha).trans h
theorem MB.drew {w : World} {q : Nat} {v : Value} {t : Ty} {st : Bool} {lo : Int} (h : MB w q v t st lo) : MB w.drew q v t st lo := h

theorem OwnT.below2 {w w' : World} {B C : Nat} {v : Value} {ts : List Ty} (h : OwnT w B v ts) (hb : Below C w w') (hC : ∀ g, v.ownBlock = some g → g < C) : OwnT w' B v ts := by
  refine ⟨h.1, ?_⟩
  rcases h.2 with h' | ⟨g, cap, cur, e, hB, hg, r⟩
  · exact .inl h'
  · refine .inr ⟨g, cap, cur, e, hB, ?_, r⟩
    rw [hb.block g (hC g (by rw [e]; rfl))]
    exact hg

theorem MB.alloc {w : World} {q : Nat} {v : Value} {t : Ty} {st : Bool} {lo : Int} (h : MB w q v t st lo) (o : Obj) : MB (w.alloc o) q v t st lo := h.below ((Below.refl w.heap.size w).alloc (Nat.le_refl _) o) h.lt

/-- what the law's last statement reads -/
def SK (X B : Nat) (vx vy : Value) (tx ty : Ty) (w' : World) : Prop :=
  MB w' X vx tx false 0 ∧ MB w' (X + 1) vy ty true 9 ∧ B < w'.heap.size ∧ w'.cell? ⟨B, 0, none⟩ = some (.int .i64 tx.1) ∧ w'.cell? ⟨B, 1, none⟩ = some (.string tx.2)
theorem SK.next {X B : Nat} {vx vy : Value} {tx ty : Ty} {w w' : World} (h : SK X B vx vy tx ty w) (hb : Below w.heap.size w w') : SK X B vx vy tx ty w' := by
  obtain ⟨h1, h2, h3, h4, h5⟩ := h
  exact ⟨h1.below hb h1.lt, h2.below hb h2.lt, Nat.lt_of_lt_of_le h3 hb.size, (hb.cell (p := ⟨B, 0, none⟩) h3).trans h4, (hb.cell (p := ⟨B, 1, none⟩) h3).trans h5⟩
theorem SK.drew {X B : Nat} {vx vy : Value} {tx ty : Ty} {w : World} (h : SK X B vx vy tx ty w) : SK X B vx vy tx ty w.drew := h
theorem SK.cells {X B : Nat} {vx vy : Value} {tx ty : Ty} {w' : World} (h : SK X B vx vy tx ty w') :
    w'.cell? ⟨X, 0, none⟩ = some (.string ⟨#[102]⟩) ∧ w'.cell? ⟨X, 1, none⟩ = some (vx) ∧ w'.cell? ⟨X, 2, none⟩ = some (.int .i64 tx.1) ∧ w'.cell? ⟨X, 3, none⟩ = some (.string tx.2) ∧ w'.cell? ⟨X, 4, none⟩ = some (.bool false) ∧ w'.cell? ⟨X, 5, none⟩ = some (.bool false) ∧ w'.cell? ⟨X, 6, none⟩ = some (.int .i64 0) ∧ w'.cell? ⟨X, 7, none⟩ = some (.slice none 0 0) ∧ w'.cell? ⟨X, 8, none⟩ = some (.slice none 0 0) ∧
    w'.cell? ⟨(X + 1), 0, none⟩ = some (.string ⟨#[102]⟩) ∧ w'.cell? ⟨(X + 1), 1, none⟩ = some (vy) ∧ w'.cell? ⟨(X + 1), 2, none⟩ = some (.int .i64 ty.1) ∧ w'.cell? ⟨(X + 1), 3, none⟩ = some (.string ty.2) ∧ w'.cell? ⟨(X + 1), 4, none⟩ = some (.bool true) ∧ w'.cell? ⟨(X + 1), 5, none⟩ = some (.bool false) ∧ w'.cell? ⟨(X + 1), 6, none⟩ = some (.int .i64 9) ∧ w'.cell? ⟨(X + 1), 7, none⟩ = some (.slice none 0 0) ∧ w'.cell? ⟨(X + 1), 8, none⟩ = some (.slice none 0 0) ∧
    w'.cell? ⟨B, 0, none⟩ = some (.int .i64 tx.1) ∧ w'.cell? ⟨B, 1, none⟩ = some (.string tx.2) := by
  obtain ⟨h1, h2, h3, h4, h5⟩ := h
  obtain ⟨a0, a1, a2, a3, a4, a5, a6, a7, a8⟩ := h1.cells
  obtain ⟨b0, b1, b2, b3, b4, b5, b6, b7, b8⟩ := h2.cells
  exact ⟨a0, a1, a2, a3, a4, a5, a6, a7, a8, b0, b1, b2, b3, b4, b5, b6, b7, b8, h4, h5⟩

set_option maxHeartbeats 16000000 in
set_option maxRecDepth 100000 in
theorem keys_law (v0 v1 : Value) (zs ys : List Int) (r s : Int) (sm : Bool) (w : World) (hg : Glob w) (hi : RdB w v0 zs) (hj : RdB w v1 ys) (hr0 : 0 ≤ r) (hr1 : r ≤ 255) (hs0 : 0 ≤ s) (hs1 : s ≤ 255) :
    Calls Try.prog 6 #[v0, v1, .int .u8 r, .int .u8 s, .bool sm] w fun e w' => e = .returned (.bool true) ∧ Below w.heap.size w w' := by
  obtain ⟨p, cap, rfl, ha0, ha1, ha2, har, ha3⟩ := id hi
  obtain ⟨q, dap, rfl, hb0, hb1, hb2, hbr, hb3⟩ := id hj
  have HI := Lib.hid hi
  have HJ := Lib.hid hj
  have HAR := Lib.hid har
  have HBR := Lib.hid hbr
  clear hi hj ha0 ha1 ha2 har ha3 hb0 hb1 hb2 hbr hb3
  by_cases h8 : 8 < zs.length
  · go_enter Try.func6, Try.ntmps6
    go_wp2_with fail
    refine (known_any _ hg).mono ?_
    rintro e w1 ⟨rfl, hb1⟩
    go_wp2_with fail
    go_ret
    exact ⟨rfl, hb1⟩
  have h8' : zs.length ≤ 8 := by omega
  have h8b : decide (8 < (zs.length : Int)) = false := decide_eq_false (by omega)
  by_cases h9 : 8 < ys.length
  · clear h8
    go_enter Try.func6, Try.ntmps6
    go_wp2_with fail
    refine (known_any _ hg).mono ?_
    rintro e w1 ⟨rfl, hb1⟩
    go_wp2_with fail
    go_ret
    exact ⟨rfl, hb1⟩
  have h9' : ys.length ≤ 8 := by omega
  have h9b : decide (8 < (ys.length : Int)) = false := decide_eq_false (by omega)
  clear h8 h9
  go_enter Try.func6, Try.ntmps6
  go_wp2_with fail
  refine (known_any _ hg).mono ?_
  rintro e w1 ⟨rfl, hb1⟩
  have hg1 := hg.below hb1 (Nat.le_refl _)
  go_wp2_with fail
  refine (of2_any r _ hr0 hr1).mono ?_
  rintro e w2 ⟨rfl, hb2⟩
  have hB2 := hb1.trans (hb2.mono hb1.size)
  have hg2 := hg1.below hb2 (Nat.le_refl _)
  clear hb1 hb2 hg1
  go_wp2_with fail
  refine (of2_any s _ hs0 hs1).mono ?_
  rintro e w3 ⟨rfl, hb3⟩
  have hB3 := hB2.trans (hb3.mono hB2.size)
  have hg3 := hg2.below hb3 (Nat.le_refl _)
  have hsz3 := hB3.size
  clear hb3 hB2 hg2
  go_wp2_with fail
  obtain ⟨X, hX⟩ : ∃ X, w3.heap.size = X := ⟨_, rfl⟩
  obtain ⟨wA, hwA⟩ : ∃ wA : World, wA = (w3.alloc (.cells #[.string ⟨#[102]⟩, .slice none 0 0, .int .i64 (ofR r).1, .string (ofR r).2, .bool false, .bool false, .int .i64 0, .slice none 0 0, .slice none 0 0] 42)).alloc (.cells #[.string ⟨#[102]⟩, .slice none 0 0, .int .i64 (ofR s).1, .string (ofR s).2, .bool false, .bool false, .int .i64 0, .slice none 0 0, .slice none 0 0] 42) := ⟨_, rfl⟩
  have hMX : MB wA X (.slice none 0 0) (ofR r) false 0 := by
    rw [hwA, ← hX]
    have h1 : MB (w3.alloc (.cells #[.string ⟨#[102]⟩, .slice none 0 0, .int .i64 (ofR r).1, .string (ofR r).2, .bool false, .bool false, .int .i64 0, .slice none 0 0, .slice none 0 0] 42)) w3.heap.size (.slice none 0 0) (ofR r) false 0 := heap_alloc_new w3 _
    exact h1.below ((Below.refl _ _).alloc (Nat.le_refl _) _) h1.lt
  have hMY : MB wA (X + 1) (.slice none 0 0) (ofR s) false 0 := by
    rw [hwA, ← hX]
    have h1 := heap_alloc_new (w3.alloc (.cells #[.string ⟨#[102]⟩, .slice none 0 0, .int .i64 (ofR r).1, .string (ofR r).2, .bool false, .bool false, .int .i64 0, .slice none 0 0, .slice none 0 0] 42)) (.cells #[.string ⟨#[102]⟩, .slice none 0 0, .int .i64 (ofR s).1, .string (ofR s).2, .bool false, .bool false, .int .i64 0, .slice none 0 0, .slice none 0 0] 42)
    simpa [MB] using h1
  have hBA : Below w.heap.size w wA := by
    rw [hwA]
    exact (hB3.alloc hsz3 _).alloc (by first | omega | (simp; done) | (simp; omega)) _
  have hAs : wA.heap.size = X + 2 := by rw [hwA, ← hX]; simp
  have hgA : Glob wA := by rw [hwA]; exact (hg3.alloc _).alloc _
  have hXw : w.heap.size ≤ X := by omega
  rw [← hwA, hX]
  have HAS := Lib.hid hAs
  have hAs1 : X + 2 ≤ wA.heap.size := by omega
  clear hwA hX hB3 hg3 hsz3 hAs
  go_loopw [13] (fun i wr => ∃ (k : Nat) (v : Value), k ≤ zs.length ∧ i = .int .i64 k ∧ MB wr X v (ofR r) false 0 ∧ MB wr (X + 1) (.slice none 0 0) (ofR s) false 0 ∧ OwnT wr (X + 2) v (tysOf (zs.take k)) ∧ Below w.heap.size w wr ∧ Below X wA wr) (fun i _ => zs.length - (intOf i).toNat)
  case atStart => exact ⟨0, _, Nat.zero_le _, rfl, hMX, hMY, OwnT.nil _ _, hBA, Below.refl _ _⟩
  case round =>
    clear hMX hMY hBA
    obtain ⟨k, v, hk, rfl, hMX, hMY, ho, hbl, hblX⟩ := hrel
    have hXl := hMY.lt
    by_cases hlt : k < zs.length
    · obtain ⟨z, hz⟩ : ∃ z, zs[k]? = some z := ⟨_, List.getElem?_eq_getElem hlt⟩
      obtain ⟨hz0, hz1⟩ := HAR.out k z hz
      obtain ⟨p', cap', e', _, g1, g2, _, g3⟩ := HI.out.below hbl (Nat.le_refl _)
      simp only [Value.slice.injEq, true_and] at e'
      obtain ⟨rfl, rfl⟩ := e'
      have hne : zs ≠ [] := fun e => by subst e; simp at hlt
      obtain ⟨⟨b, off, spot⟩, rfl⟩ : ∃ a, p = some a := by
        cases p with
        | none => exact absurd (g2 rfl) hne
        | some a => exact ⟨a, rfl⟩
      obtain rfl : spot = none := g1 _ rfl hne
      have hcell := g3 _ rfl k z hz
      simp only at hcell
      have hbw : b < w.heap.size := by
        obtain ⟨_, _, e2, _, _, _, _, k3⟩ := HI.out
        simp only [Value.slice.injEq, true_and] at e2
        obtain ⟨rfl, rfl⟩ := e2
        have := World.block_lt_of_cell? _ _ (k3 _ rfl k z hz)
        simpa using this
      have HT := Lib.hid (tysOf_snoc zs k z hz)
      have hki0 : (0 : Int) ≤ (k : Int) := Int.natCast_nonneg _
      have hki1 : (k : Int) < (zs.length : Int) := by omega
      have hcx := hMX.cells.2.1
      have hfx := hMX.frozen 1
      have hlen : (tysOf (zs.take k)).length ≤ 8 := by unfold tysOf; rw [List.length_map, List.length_take]; omega
      clear g1 g2 g3 hz hne
      go_wp2_with fail
      have hXl0 : X < wr.heap.size := by omega
      have hXn0 : ¬ X = wr.heap.size := by omega
      have hbn0 : ¬ b = wr.heap.size := by omega
      go_region_law (first
          | (refine step_appT (by rfl) _ _ (by rfl) (X + 2) v (tysOf (zs.take k)) (by rfl) ho1 _ [ofR z] (by rfl) (OwnT.lit w5 (ofR z).1 (ofR z).2).rd (fun n c h => by simp at h) (by first | omega | (simp; done) | (simp; omega)) (by first | omega | (simp; done) | (simp; omega)) ?_; intro v7 w7 ho7 hg7; obtain ⟨a7, c7, hv7, _⟩ := ho7.rd; subst hv7; have f7 : Below (X + 2) w5 w7 := ((Below.refl _ w5).alloc (by omega) _).grown hg7 (by first | omega | (simp; done) | (simp; omega)) (fun g hg => (ho1.lt hg).1); have hMX2 := hMX1.below f7 (by omega); have hMY2 := hMY1.below f7 (by omega); have hcx2 := hMX2.cells.2.1; have hfx2 := hMX2.frozen 1; have hcell2 := (f7.cell (p := ⟨b, off + k, none⟩) (by first | omega | (simp; done) | (simp; omega))).trans hcell1; have hbl2 := hbl1.trans (f7.mono (by omega)); have hblX2 := hblX1.trans (f7.mono (by omega)))
          | (rw [if_pos (by rfl)]; go_simp; go_at_call 24; refine (of2_any z _ hz0 hz1).mono ?_; rintro e w5 ⟨rfl, f1⟩; have hMX1 := hMX.drew.below f1 hMX.lt; have hMY1 := hMY.drew.below f1 hMY.lt; have ho1 := (ho.drew.below f1 (Nat.le_refl _)).alloc (.cells #[.int .i64 (ofR z).1, .string (ofR z).2] 27); have hcx1 := hMX1.cells.2.1; have hcell1 := (f1.cell (p := ⟨b, off + k, none⟩) (by first | omega | (simp; done) | (simp; omega))).trans hcell; have hbl1 := hbl.drew.trans (f1.mono (by first | omega | (simp; done) | (simp; omega))); have hs5 := f1.size; have hblX1 := hblX.drew.trans (f1.mono (by first | omega | (simp; done) | (simp; omega))); simp at hs5; have hXl1 : X < w5.heap.size := (by omega); have hXn1 : ¬ X = w5.heap.size := (by omega)))
      all_goals
        have el : (tysOf (zs.take k) ++ [ofR z]).length = (tysOf (zs.take k)).length + 1 := by simp
        rw [el] at ho7
        have hMX3 := hMX2.set1 (.slice a7 ((tysOf (zs.take k)).length + 1) c7)
        have hMY3 := hMY2.other (a := ⟨X, 1, none⟩) (by simp) (.slice a7 ((tysOf (zs.take k)).length + 1) c7)
        have ho3 := ho7.setCell (a := ⟨X, 1, none⟩) (by simp) (.slice a7 ((tysOf (zs.take k)).length + 1) c7)
        have hbl3 := hbl2.setCell (p := ⟨X, 1, none⟩) hXw (.slice a7 ((tysOf (zs.take k)).length + 1) c7)
        have hblX3 := hblX2.setCell (p := ⟨X, 1, none⟩) (Nat.le_refl _) (.slice a7 ((tysOf (zs.take k)).length + 1) c7)
        rw [← HT.out] at ho3
        clear hMX hMY ho hMX1 hMY1 ho1 hcx1 hcell1 hbl1 hblX1 hs5 f1 hMX2 hMY2 hcx2 hfx2 hcell2 hbl2 hblX2 hg7 f7 ho7 hcx hfx hcell el
        go_wp2_with fail
        go_roundw
        case rel => exact ⟨k + 1, _, by omega, by go_num, hMX3, hMY3, ho3, hbl3, hblX3⟩
        case measure => simp [intOf]; omega
    · have hke : tysOf (zs.take k) = tysOf zs := by rw [List.take_of_length_le (by omega)]
      rw [hke] at ho
      obtain ⟨ax, cx, hvx, _⟩ := ho.rd
      subst hvx
      obtain ⟨C, hC⟩ : ∃ C, wr.heap.size = C := ⟨_, rfl⟩
      have hCx : ∀ g, (Value.slice ax (tysOf zs).length cx).ownBlock = some g → g < C := fun g hg => by rw [← hC]; exact (ho.lt hg).2
      have hXC : X + 1 < C := by omega
      have hgB : Glob wr := hg.below hbl (Nat.le_refl _)
      obtain ⟨wB, hwB⟩ : ∃ wB : World, wr = wB := ⟨_, rfl⟩
      rw [hwB]
      rw [hwB] at hMX hMY ho hbl hC hgB
      have hCB : C ≤ wB.heap.size := by omega
      have HTX := Lib.hid (tysOf_right zs)
      have hge : zs.length ≤ k := by omega
      have hkb : decide (k < zs.length) = false := decide_eq_false hlt
      have hlx : (tysOf zs).length ≤ 8 := by unfold tysOf; rw [List.length_map]; omega
      clear hwB hke hlt hXl hblX hC
      go_wp2_with fail
      go_loopw [14] (fun i wr => ∃ (k : Nat) (v : Value), k ≤ ys.length ∧ i = .int .i64 k ∧ MB wr X (.slice ax (tysOf zs).length cx) (ofR r) false 0 ∧ MB wr (X + 1) v (ofR s) false 0 ∧ OwnT wr (X + 2) (.slice ax (tysOf zs).length cx) (tysOf zs) ∧ OwnT wr C v (tysOf (ys.take k)) ∧ Below w.heap.size w wr ∧ C ≤ wr.heap.size) (fun i _ => ys.length - (intOf i).toNat)
      case atStart => exact ⟨0, _, Nat.zero_le _, rfl, hMX, hMY, ho, OwnT.nil _ _, hbl, hCB⟩
      case round =>
        clear hMX hMY ho hbl hCB
        obtain ⟨k, v, hk, rfl, hMX, hMY, hox, ho, hbl, hCr⟩ := hrel
        by_cases hlt : k < ys.length
        · obtain ⟨z, hz⟩ : ∃ z, ys[k]? = some z := ⟨_, List.getElem?_eq_getElem hlt⟩
          obtain ⟨hz0, hz1⟩ := HBR.out k z hz
          obtain ⟨p', cap', e', _, g1, g2, _, g3⟩ := HJ.out.below hbl (Nat.le_refl _)
          simp only [Value.slice.injEq, true_and] at e'
          obtain ⟨rfl, rfl⟩ := e'
          have hne : ys ≠ [] := fun e => by subst e; simp at hlt
          obtain ⟨⟨b, off, spot⟩, rfl⟩ : ∃ a, q = some a := by
            cases q with
            | none => exact absurd (g2 rfl) hne
            | some a => exact ⟨a, rfl⟩
          obtain rfl : spot = none := g1 _ rfl hne
          have hcell := g3 _ rfl k z hz
          simp only at hcell
          have hbw : b < w.heap.size := by
            obtain ⟨_, _, e2, _, _, _, _, k3⟩ := HJ.out
            simp only [Value.slice.injEq, true_and] at e2
            obtain ⟨rfl, rfl⟩ := e2
            have := World.block_lt_of_cell? _ _ (k3 _ rfl k z hz)
            simpa using this
          have HT := Lib.hid (tysOf_snoc ys k z hz)
          have hki0 : (0 : Int) ≤ (k : Int) := Int.natCast_nonneg _
          have hki1 : (k : Int) < (ys.length : Int) := by omega
          have hcx := hMY.cells.2.1
          have hfx := hMY.frozen 1
          have hlen : (tysOf (ys.take k)).length ≤ 8 := by unfold tysOf; rw [List.length_map, List.length_take]; omega
          clear g1 g2 g3 hz hne
          have hXl0 : X + 1 < wr.heap.size := by omega
          have hXn0 : ¬ X + 1 = wr.heap.size := by omega
          have hbn0 : ¬ b = wr.heap.size := by omega
          go_wp2_with fail
          go_region_law (first
              | (refine step_appT (by rfl) _ _ (by rfl) C v (tysOf (ys.take k)) (by rfl) ho1 _ [ofR z] (by rfl) (OwnT.lit w5 (ofR z).1 (ofR z).2).rd (fun n c h => (by simp at h)) (by first | omega | (simp; done) | (simp; omega)) (by first | omega | (simp; done) | (simp; omega)) ?_; intro v7 w7 ho7 hg7; obtain ⟨a7, c7, hv7, _⟩ := ho7.rd; subst hv7; have f7 : Below C w5 w7 := ((Below.refl _ w5).alloc (by omega) _).grown hg7 (by first | omega | (simp; done) | (simp; omega)) (fun g hg => (ho1.lt hg).1); have hMX2 := hMX1.below f7 (by omega); have hMY2 := hMY1.below f7 (by omega); have hox2 : OwnT w7 (X + 2) (.slice ax (tysOf zs).length cx) (tysOf zs) := hox1.below2 f7 hCx; have hcx2 := hMY2.cells.2.1; have hfx2 := hMY2.frozen 1; have hcell2 := (f7.cell (p := ⟨b, off + k, none⟩) (by first | omega | (simp; done) | (simp; omega))).trans hcell1; have hbl2 := hbl1.trans (f7.mono (by omega)); have hs7 : C ≤ w7.heap.size := (by have := f7.size; omega))
              | (rw [if_pos (by rfl)]; go_simp; go_at_call 24; refine (of2_any z _ hz0 hz1).mono ?_; rintro e w5 ⟨rfl, f1⟩; have hMX1 := hMX.drew.below f1 hMX.lt; have hMY1 := hMY.drew.below f1 hMY.lt; have hox1 := hox.drew.below f1 (Nat.le_refl _); have ho1 := (ho.drew.below f1 (Nat.le_refl _)).alloc (.cells #[.int .i64 (ofR z).1, .string (ofR z).2] 27); have hcx1 := hMY1.cells.2.1; have hcell1 := (f1.cell (p := ⟨b, off + k, none⟩) (by first | omega | (simp; done) | (simp; omega))).trans hcell; have hbl1 := hbl.drew.trans (f1.mono (by first | omega | (simp; done) | (simp; omega))); have hs5 := f1.size; simp at hs5; have hXl1 : X + 1 < w5.heap.size := (by omega); have hXn1 : ¬ X + 1 = w5.heap.size := (by omega)))
          all_goals
            have el : (tysOf (ys.take k) ++ [ofR z]).length = (tysOf (ys.take k)).length + 1 := by simp
            rw [el] at ho7
            have hMY3 := hMY2.set1 (.slice a7 ((tysOf (ys.take k)).length + 1) c7)
            have hMX3 := hMX2.other (a := ⟨X + 1, 1, none⟩) (by simp) (.slice a7 ((tysOf (ys.take k)).length + 1) c7)
            have ho3 := ho7.setCell (a := ⟨X + 1, 1, none⟩) hXC (.slice a7 ((tysOf (ys.take k)).length + 1) c7)
            have hox3 := hox2.setCell (a := ⟨X + 1, 1, none⟩) (by simp) (.slice a7 ((tysOf (ys.take k)).length + 1) c7)
            have hbl3 := hbl2.setCell (p := ⟨X + 1, 1, none⟩) (by simp; omega) (.slice a7 ((tysOf (ys.take k)).length + 1) c7)
            rw [← HT.out] at ho3
            clear hMX hMY ho hMX1 hMY1 ho1 hcx1 hcell1 hbl1 hs5 f1 hMX2 hMY2 hcx2 hfx2 hcell2 hbl2 hg7 f7 ho7 hcx hfx hcell el hox hox1 hox2
            go_wp2_with fail
            go_roundw
            case rel => exact ⟨k + 1, _, by omega, by go_num, hMX3, hMY3, hox3, ho3, hbl3, by first | omega | (simp; done) | (simp; omega)⟩
            case measure => simp [intOf]; omega
        · have hke : tysOf (ys.take k) = tysOf ys := by rw [List.take_of_length_le (by omega)]
          rw [hke] at ho
          obtain ⟨ay, cy, hvy, _⟩ := ho.rd
          subst hvy
          have hly : (tysOf ys).length ≤ 8 := by unfold tysOf; rw [List.length_map]; omega
          have hge2 : ys.length ≤ k := by omega
          clear hke hlt
          cases sm with
          | false =>
            have hOX := hox
            have hOY : OwnT wr (X + 2) (.slice ay (tysOf ys).length cy) (tysOf ys) := ho.mono (by omega)
            clear hox ho
            cases hsb : sameB (tysOf zs) (tysOf ys) with
            | false =>
              have hke : (((⟨#[102]⟩ : ByteArray) ++ bx (ofL (tysOf zs) ((ofR r).1, (ofR r).2))).toList == ((⟨#[102]⟩ : ByteArray) ++ bx (ofL (tysOf ys) ((ofR s).1, (ofR s).2))).toList) = false := by
                rw [beq_eq_false_iff_ne]
                intro e
                have h2 := (key_eq zs ys r s h8' h9' (toList_inj e)).1
                rw [h2, sameB_self] at hsb
                cases hsb
              have hXl := hMX.lt
              have hYl := hMY.lt
              have g1 := hMX.cells.2.1
              have g4 := hMY.cells.2.1
              go_wp2_with fail
              refine (same_at hsb hOX.rd hOY.rd (by omega) (by omega)).mono ?_
              rintro e w8 ⟨rfl, f8⟩
              have hMX8 := hMX.below f8 hXl
              have hMY8 := hMY.below f8 hYl
              have hOX8 := hOX.below f8 (Nat.le_refl _)
              have hOY8 := hOY.below f8 (Nat.le_refl _)
              have hB8 := hbl.trans (f8.mono hbl.size)
              clear g1 g4
              have g1 := hMX8.cells.2.1
              have g2 := hMX8.cells.2.2.1
              have g3 := hMX8.cells.2.2.2.1
              have g5 := hMY8.cells.2.2.1
              have g6 := hMY8.cells.2.2.2.1
              clear hMX hMY hOX hOY hbl hXl hYl f8
              go_wp2_with fail
              refine (of_any _ (tysOf zs) _ _ _ hOX8.rd (by omega) (tysOf_size zs) (Nat.le_trans (ofR_size r) (by decide))).mono ?_
              rintro e w9 ⟨rfl, f9⟩
              have hMX9 := hMX8.below f9 hMX8.lt
              have hMY9 := hMY8.below f9 hMY8.lt
              have hOX9 := hOX8.below f9 (Nat.le_refl _)
              have hOY9 := hOY8.below f9 (Nat.le_refl _)
              have hB9 := hB8.trans (f9.mono hB8.size)
              have hg9 := hg.below hB9 (Nat.le_refl _)
              have hY9 := hMY9.lt
              clear g1 g2 g3 g5 g6 hMX8 hMY8 hOX8 hOY8 hB8 f9
              go_wp2_with fail
              refine (parse_at (ps := tysOf zs) (t := ofR r) (ok := true) (parseR_of (tysOf_right zs) hlx (ofR_right r).1) _ hg9 (of_small zs r hlx)).mono ?_
              rintro e w10 ⟨v10, rfl, ho10, f10⟩
              rw [show tyv (ofR r) = .agg #[.int .i64 (ofR r).1, .string (ofR r).2] from rfl]
              have hMX10 := hMX9.below f10 hMX9.lt
              have hMY10 := hMY9.below f10 hMY9.lt
              have hOX10 := hOX9.below f10 (Nat.le_refl _)
              have hOY10 := hOY9.below f10 (Nat.le_refl _)
              have hB10 := hB9.trans (f10.mono hB9.size)
              have hXl10 := hMX10.lt
              have hYl10 := hMY10.lt
              have hYn10 : ¬ X + 1 = w10.heap.size := by omega
              obtain ⟨a10, c10, hv10, _⟩ := ho10.rd
              subst hv10
              have q4 := hMY10.cells.2.2.2.2.1
              have q6 := hMY10.cells.2.2.2.2.2.2.1
              have z4 := hMY10.frozen 4
              have z6 := hMY10.frozen 6
              have hBm := hB10.size
              clear hMX9 hMY9 hOX9 hOY9 hB9 hg9 f10
              go_wp2_with fail
              clear q4 q6 z4 z6
              have hMXe := ((hMX10.other (a := ⟨X + 1, 4, none⟩) (by simp) (.bool true)).other (a := ⟨X + 1, 6, none⟩) (by simp) (.int .i64 9)).alloc (.cells #[.int .i64 (ofR r).1, .string (ofR r).2] 27)
              have hMYe := ((hMY10.set4 true).set6 9).alloc (.cells #[.int .i64 (ofR r).1, .string (ofR r).2] 27)
              have hOXe := ((hOX10.setCell (a := ⟨X + 1, 4, none⟩) (by simp) (.bool true)).setCell (a := ⟨X + 1, 6, none⟩) (by simp) (.int .i64 9)).alloc (.cells #[.int .i64 (ofR r).1, .string (ofR r).2] 27)
              have hOYe := ((hOY10.setCell (a := ⟨X + 1, 4, none⟩) (by simp) (.bool true)).setCell (a := ⟨X + 1, 6, none⟩) (by simp) (.int .i64 9)).alloc (.cells #[.int .i64 (ofR r).1, .string (ofR r).2] 27)
              have hOPe := ((ho10.setCell (a := ⟨X + 1, 4, none⟩) hY9 (.bool true)).setCell (a := ⟨X + 1, 6, none⟩) hY9 (.int .i64 9)).alloc (.cells #[.int .i64 (ofR r).1, .string (ofR r).2] 27)
              have hBe := (((hB10.setCell (p := ⟨X + 1, 4, none⟩) (by simp; omega) (.bool true)).setCell (p := ⟨X + 1, 6, none⟩) (by simp; omega) (.int .i64 9)).alloc (by simp; omega) (.cells #[.int .i64 (ofR r).1, .string (ofR r).2] 27)).drew
              have hbx := heap_alloc_new ((w10.setCell ⟨X + 1, 4, none⟩ (.bool true)).setCell ⟨X + 1, 6, none⟩ (.int .i64 9)) (.cells #[.int .i64 (ofR r).1, .string (ofR r).2] 27)
              rw [show ((w10.setCell ⟨X + 1, 4, none⟩ (.bool true)).setCell ⟨X + 1, 6, none⟩ (.int .i64 9)).heap.size = w10.heap.size from by simp] at hbx
              have hSe : SK X w10.heap.size (.slice ax (tysOf zs).length cx) (.slice ay (tysOf ys).length cy) (ofR r) (ofR s) _ := ⟨hMXe, hMYe, by simp, Lib.cell_of_heap hbx 0, Lib.cell_of_heap hbx 1⟩
              clear hMX10 hMY10 hOX10 hOY10 ho10 hB10 hMXe hMYe hbx
              go_region_held3 (fun w' => w'.cell? ⟨X, 0, none⟩ = some (.string ⟨#[102]⟩) ∧ w'.cell? ⟨X, 1, none⟩ = some ((.slice ax (tysOf zs).length cx)) ∧ w'.cell? ⟨X, 2, none⟩ = some (.int .i64 (ofR r).1) ∧ w'.cell? ⟨X, 3, none⟩ = some (.string (ofR r).2) ∧ w'.cell? ⟨X, 4, none⟩ = some (.bool false) ∧ w'.cell? ⟨X, 5, none⟩ = some (.bool false) ∧ w'.cell? ⟨X, 6, none⟩ = some (.int .i64 0) ∧ w'.cell? ⟨X, 7, none⟩ = some (.slice none 0 0) ∧ w'.cell? ⟨X, 8, none⟩ = some (.slice none 0 0) ∧ w'.cell? ⟨(X + 1), 0, none⟩ = some (.string ⟨#[102]⟩) ∧ w'.cell? ⟨(X + 1), 1, none⟩ = some ((.slice ay (tysOf ys).length cy)) ∧ w'.cell? ⟨(X + 1), 2, none⟩ = some (.int .i64 (ofR s).1) ∧ w'.cell? ⟨(X + 1), 3, none⟩ = some (.string (ofR s).2) ∧ w'.cell? ⟨(X + 1), 4, none⟩ = some (.bool true) ∧ w'.cell? ⟨(X + 1), 5, none⟩ = some (.bool false) ∧ w'.cell? ⟨(X + 1), 6, none⟩ = some (.int .i64 9) ∧ w'.cell? ⟨(X + 1), 7, none⟩ = some (.slice none 0 0) ∧ w'.cell? ⟨(X + 1), 8, none⟩ = some (.slice none 0 0) ∧ w'.cell? ⟨w10.heap.size, 0, none⟩ = some (.int .i64 (ofR r).1) ∧ w'.cell? ⟨w10.heap.size, 1, none⟩ = some (.string (ofR r).2))
                (first | exact hSe.cells | exact hS1.cells | exact hS2.cells | exact hS3.cells)
                (first
                  | (go_at_call 13; refine (same_at (sameB_self (tysOf zs)) hOP2.rd hOX2.rd (by omega) (by omega)).mono ?_; rintro e w13 ⟨rfl, f13⟩; have hS3 := hS2.next f13; have hB3 := hB2.trans (f13.mono hB2.size))
                  | (go_at_call 22; refine (key_any ⟨#[102]⟩ (.slice ay (tysOf ys).length cy) (tysOf ys) (ofR s).1 (ofR s).2 true false 9 (.slice none 0 0) (.slice none 0 0) _ hOY1.rd (by omega) (tysOf_size ys) (Nat.le_trans (ofR_size s) (by decide)) (by decide)).mono ?_; rintro e w12 ⟨rfl, f12⟩; have hS2 := hS1.next f12; have hB2 := hB1.trans (f12.mono hB1.size); have hOX2 := hOX1.below f12 (Nat.le_refl _); have hOP2 := hOP1.below f12 (Nat.le_refl _))
                  | (go_at_call 22; refine (key_any ⟨#[102]⟩ (.slice ax (tysOf zs).length cx) (tysOf zs) (ofR r).1 (ofR r).2 false false 0 (.slice none 0 0) (.slice none 0 0) _ hOXe.drew.rd (by omega) (tysOf_size zs) (Nat.le_trans (ofR_size r) (by decide)) (by decide)).mono ?_; rintro e w11 ⟨rfl, f11⟩; have hS1 := hSe.drew.next f11; have hB1 := hBe.trans (f11.mono hBe.size); have hOX1 := hOXe.drew.below f11 (Nat.le_refl _); have hOY1 := hOYe.drew.below f11 (Nat.le_refl _); have hOP1 := hOPe.drew.below f11 (Nat.le_refl _)))
              go_wp2_with fail
              go_ret
              exact ⟨ret_bool (by first | rfl | (simp; done) | simp [*]), hB3⟩
            | true =>
              have hzy : tysOf zs = tysOf ys := by unfold sameB at hsb; exact of_decide_eq_true hsb
              have HZY := Lib.hid hzy
              clear hzy
              by_cases hk1 : (ofR r).1 = (ofR s).1
              · by_cases hk2 : (ofR r).2 = (ofR s).2
                · have hb1 : ((ofR r).1 == (ofR s).1) = true := by rw [beq_iff_eq]; exact hk1
                  have hb2 : ((ofR r).2.toList == (ofR s).2.toList) = true := by rw [beq_iff_eq, hk2]
                  have hke : (((⟨#[102]⟩ : ByteArray) ++ bx (ofL (tysOf zs) ((ofR r).1, (ofR r).2))).toList == ((⟨#[102]⟩ : ByteArray) ++ bx (ofL (tysOf ys) ((ofR s).1, (ofR s).2))).toList) = true := by
                    rw [beq_iff_eq, HZY.out, show ((ofR r).1, (ofR r).2) = ((ofR s).1, (ofR s).2) from by rw [hk1, hk2]]
                  clear hk1 hk2
                  have hXl := hMX.lt
                  have hYl := hMY.lt
                  have g1 := hMX.cells.2.1
                  have g4 := hMY.cells.2.1
                  go_wp2_with fail
                  refine (same_at hsb hOX.rd hOY.rd (by omega) (by omega)).mono ?_
                  rintro e w8 ⟨rfl, f8⟩
                  have hMX8 := hMX.below f8 hXl
                  have hMY8 := hMY.below f8 hYl
                  have hOX8 := hOX.below f8 (Nat.le_refl _)
                  have hOY8 := hOY.below f8 (Nat.le_refl _)
                  have hB8 := hbl.trans (f8.mono hbl.size)
                  clear g1 g4
                  have g1 := hMX8.cells.2.1
                  have g2 := hMX8.cells.2.2.1
                  have g3 := hMX8.cells.2.2.2.1
                  have g5 := hMY8.cells.2.2.1
                  have g6 := hMY8.cells.2.2.2.1
                  clear hMX hMY hOX hOY hbl hXl hYl f8
                  go_wp2_with fail
                  refine (of_any _ (tysOf zs) _ _ _ hOX8.rd (by omega) (tysOf_size zs) (Nat.le_trans (ofR_size r) (by decide))).mono ?_
                  rintro e w9 ⟨rfl, f9⟩
                  have hMX9 := hMX8.below f9 hMX8.lt
                  have hMY9 := hMY8.below f9 hMY8.lt
                  have hOX9 := hOX8.below f9 (Nat.le_refl _)
                  have hOY9 := hOY8.below f9 (Nat.le_refl _)
                  have hB9 := hB8.trans (f9.mono hB8.size)
                  have hg9 := hg.below hB9 (Nat.le_refl _)
                  have hY9 := hMY9.lt
                  clear g1 g2 g3 g5 g6 hMX8 hMY8 hOX8 hOY8 hB8 f9
                  go_wp2_with fail
                  refine (parse_at (ps := tysOf zs) (t := ofR r) (ok := true) (parseR_of (tysOf_right zs) hlx (ofR_right r).1) _ hg9 (of_small zs r hlx)).mono ?_
                  rintro e w10 ⟨v10, rfl, ho10, f10⟩
                  rw [show tyv (ofR r) = .agg #[.int .i64 (ofR r).1, .string (ofR r).2] from rfl]
                  have hMX10 := hMX9.below f10 hMX9.lt
                  have hMY10 := hMY9.below f10 hMY9.lt
                  have hOX10 := hOX9.below f10 (Nat.le_refl _)
                  have hOY10 := hOY9.below f10 (Nat.le_refl _)
                  have hB10 := hB9.trans (f10.mono hB9.size)
                  have hXl10 := hMX10.lt
                  have hYl10 := hMY10.lt
                  have hYn10 : ¬ X + 1 = w10.heap.size := by omega
                  obtain ⟨a10, c10, hv10, _⟩ := ho10.rd
                  subst hv10
                  have q4 := hMY10.cells.2.2.2.2.1
                  have q6 := hMY10.cells.2.2.2.2.2.2.1
                  have z4 := hMY10.frozen 4
                  have z6 := hMY10.frozen 6
                  have hBm := hB10.size
                  clear hMX9 hMY9 hOX9 hOY9 hB9 hg9 f10
                  go_wp2_with fail
                  clear q4 q6 z4 z6
                  have hMXe := ((hMX10.other (a := ⟨X + 1, 4, none⟩) (by simp) (.bool true)).other (a := ⟨X + 1, 6, none⟩) (by simp) (.int .i64 9)).alloc (.cells #[.int .i64 (ofR r).1, .string (ofR r).2] 27)
                  have hMYe := ((hMY10.set4 true).set6 9).alloc (.cells #[.int .i64 (ofR r).1, .string (ofR r).2] 27)
                  have hOXe := ((hOX10.setCell (a := ⟨X + 1, 4, none⟩) (by simp) (.bool true)).setCell (a := ⟨X + 1, 6, none⟩) (by simp) (.int .i64 9)).alloc (.cells #[.int .i64 (ofR r).1, .string (ofR r).2] 27)
                  have hOYe := ((hOY10.setCell (a := ⟨X + 1, 4, none⟩) (by simp) (.bool true)).setCell (a := ⟨X + 1, 6, none⟩) (by simp) (.int .i64 9)).alloc (.cells #[.int .i64 (ofR r).1, .string (ofR r).2] 27)
                  have hOPe := ((ho10.setCell (a := ⟨X + 1, 4, none⟩) hY9 (.bool true)).setCell (a := ⟨X + 1, 6, none⟩) hY9 (.int .i64 9)).alloc (.cells #[.int .i64 (ofR r).1, .string (ofR r).2] 27)
                  have hBe := (((hB10.setCell (p := ⟨X + 1, 4, none⟩) (by simp; omega) (.bool true)).setCell (p := ⟨X + 1, 6, none⟩) (by simp; omega) (.int .i64 9)).alloc (by simp; omega) (.cells #[.int .i64 (ofR r).1, .string (ofR r).2] 27)).drew
                  have hbx := heap_alloc_new ((w10.setCell ⟨X + 1, 4, none⟩ (.bool true)).setCell ⟨X + 1, 6, none⟩ (.int .i64 9)) (.cells #[.int .i64 (ofR r).1, .string (ofR r).2] 27)
                  rw [show ((w10.setCell ⟨X + 1, 4, none⟩ (.bool true)).setCell ⟨X + 1, 6, none⟩ (.int .i64 9)).heap.size = w10.heap.size from by simp] at hbx
                  have hSe : SK X w10.heap.size (.slice ax (tysOf zs).length cx) (.slice ay (tysOf ys).length cy) (ofR r) (ofR s) _ := ⟨hMXe, hMYe, by simp, Lib.cell_of_heap hbx 0, Lib.cell_of_heap hbx 1⟩
                  clear hMX10 hMY10 hOX10 hOY10 ho10 hB10 hMXe hMYe hbx
                  go_region_held3 (fun w' => w'.cell? ⟨X, 0, none⟩ = some (.string ⟨#[102]⟩) ∧ w'.cell? ⟨X, 1, none⟩ = some ((.slice ax (tysOf zs).length cx)) ∧ w'.cell? ⟨X, 2, none⟩ = some (.int .i64 (ofR r).1) ∧ w'.cell? ⟨X, 3, none⟩ = some (.string (ofR r).2) ∧ w'.cell? ⟨X, 4, none⟩ = some (.bool false) ∧ w'.cell? ⟨X, 5, none⟩ = some (.bool false) ∧ w'.cell? ⟨X, 6, none⟩ = some (.int .i64 0) ∧ w'.cell? ⟨X, 7, none⟩ = some (.slice none 0 0) ∧ w'.cell? ⟨X, 8, none⟩ = some (.slice none 0 0) ∧ w'.cell? ⟨(X + 1), 0, none⟩ = some (.string ⟨#[102]⟩) ∧ w'.cell? ⟨(X + 1), 1, none⟩ = some ((.slice ay (tysOf ys).length cy)) ∧ w'.cell? ⟨(X + 1), 2, none⟩ = some (.int .i64 (ofR s).1) ∧ w'.cell? ⟨(X + 1), 3, none⟩ = some (.string (ofR s).2) ∧ w'.cell? ⟨(X + 1), 4, none⟩ = some (.bool true) ∧ w'.cell? ⟨(X + 1), 5, none⟩ = some (.bool false) ∧ w'.cell? ⟨(X + 1), 6, none⟩ = some (.int .i64 9) ∧ w'.cell? ⟨(X + 1), 7, none⟩ = some (.slice none 0 0) ∧ w'.cell? ⟨(X + 1), 8, none⟩ = some (.slice none 0 0) ∧ w'.cell? ⟨w10.heap.size, 0, none⟩ = some (.int .i64 (ofR r).1) ∧ w'.cell? ⟨w10.heap.size, 1, none⟩ = some (.string (ofR r).2))
                    (first | exact hSe.cells | exact hS1.cells | exact hS2.cells | exact hS3.cells)
                    (first
                      | (go_at_call 13; refine (same_at (sameB_self (tysOf zs)) hOP2.rd hOX2.rd (by omega) (by omega)).mono ?_; rintro e w13 ⟨rfl, f13⟩; have hS3 := hS2.next f13; have hB3 := hB2.trans (f13.mono hB2.size))
                      | (go_at_call 22; refine (key_any ⟨#[102]⟩ (.slice ay (tysOf ys).length cy) (tysOf ys) (ofR s).1 (ofR s).2 true false 9 (.slice none 0 0) (.slice none 0 0) _ hOY1.rd (by omega) (tysOf_size ys) (Nat.le_trans (ofR_size s) (by decide)) (by decide)).mono ?_; rintro e w12 ⟨rfl, f12⟩; have hS2 := hS1.next f12; have hB2 := hB1.trans (f12.mono hB1.size); have hOX2 := hOX1.below f12 (Nat.le_refl _); have hOP2 := hOP1.below f12 (Nat.le_refl _))
                      | (go_at_call 22; refine (key_any ⟨#[102]⟩ (.slice ax (tysOf zs).length cx) (tysOf zs) (ofR r).1 (ofR r).2 false false 0 (.slice none 0 0) (.slice none 0 0) _ hOXe.drew.rd (by omega) (tysOf_size zs) (Nat.le_trans (ofR_size r) (by decide)) (by decide)).mono ?_; rintro e w11 ⟨rfl, f11⟩; have hS1 := hSe.drew.next f11; have hB1 := hBe.trans (f11.mono hBe.size); have hOX1 := hOXe.drew.below f11 (Nat.le_refl _); have hOY1 := hOYe.drew.below f11 (Nat.le_refl _); have hOP1 := hOPe.drew.below f11 (Nat.le_refl _)))
                  go_wp2_with fail
                  go_ret
                  exact ⟨ret_bool (by first | rfl | (simp; done) | simp [*]), hB3⟩
                · have hb1 : ((ofR r).1 == (ofR s).1) = true := by rw [beq_iff_eq]; exact hk1
                  have hb2 : ((ofR r).2.toList == (ofR s).2.toList) = false := by rw [beq_eq_false_iff_ne]; exact fun e => hk2 (toList_inj e)
                  have hke : (((⟨#[102]⟩ : ByteArray) ++ bx (ofL (tysOf zs) ((ofR r).1, (ofR r).2))).toList == ((⟨#[102]⟩ : ByteArray) ++ bx (ofL (tysOf ys) ((ofR s).1, (ofR s).2))).toList) = false := by
                    rw [beq_eq_false_iff_ne]
                    intro e
                    exact hk2 (congrArg Prod.snd (key_eq zs ys r s h8' h9' (toList_inj e)).2)
                  clear hk1 hk2
                  have hXl := hMX.lt
                  have hYl := hMY.lt
                  have g1 := hMX.cells.2.1
                  have g4 := hMY.cells.2.1
                  go_wp2_with fail
                  refine (same_at hsb hOX.rd hOY.rd (by omega) (by omega)).mono ?_
                  rintro e w8 ⟨rfl, f8⟩
                  have hMX8 := hMX.below f8 hXl
                  have hMY8 := hMY.below f8 hYl
                  have hOX8 := hOX.below f8 (Nat.le_refl _)
                  have hOY8 := hOY.below f8 (Nat.le_refl _)
                  have hB8 := hbl.trans (f8.mono hbl.size)
                  clear g1 g4
                  have g1 := hMX8.cells.2.1
                  have g2 := hMX8.cells.2.2.1
                  have g3 := hMX8.cells.2.2.2.1
                  have g5 := hMY8.cells.2.2.1
                  have g6 := hMY8.cells.2.2.2.1
                  clear hMX hMY hOX hOY hbl hXl hYl f8
                  go_wp2_with fail
                  refine (of_any _ (tysOf zs) _ _ _ hOX8.rd (by omega) (tysOf_size zs) (Nat.le_trans (ofR_size r) (by decide))).mono ?_
                  rintro e w9 ⟨rfl, f9⟩
                  have hMX9 := hMX8.below f9 hMX8.lt
                  have hMY9 := hMY8.below f9 hMY8.lt
                  have hOX9 := hOX8.below f9 (Nat.le_refl _)
                  have hOY9 := hOY8.below f9 (Nat.le_refl _)
                  have hB9 := hB8.trans (f9.mono hB8.size)
                  have hg9 := hg.below hB9 (Nat.le_refl _)
                  have hY9 := hMY9.lt
                  clear g1 g2 g3 g5 g6 hMX8 hMY8 hOX8 hOY8 hB8 f9
                  go_wp2_with fail
                  refine (parse_at (ps := tysOf zs) (t := ofR r) (ok := true) (parseR_of (tysOf_right zs) hlx (ofR_right r).1) _ hg9 (of_small zs r hlx)).mono ?_
                  rintro e w10 ⟨v10, rfl, ho10, f10⟩
                  rw [show tyv (ofR r) = .agg #[.int .i64 (ofR r).1, .string (ofR r).2] from rfl]
                  have hMX10 := hMX9.below f10 hMX9.lt
                  have hMY10 := hMY9.below f10 hMY9.lt
                  have hOX10 := hOX9.below f10 (Nat.le_refl _)
                  have hOY10 := hOY9.below f10 (Nat.le_refl _)
                  have hB10 := hB9.trans (f10.mono hB9.size)
                  have hXl10 := hMX10.lt
                  have hYl10 := hMY10.lt
                  have hYn10 : ¬ X + 1 = w10.heap.size := by omega
                  obtain ⟨a10, c10, hv10, _⟩ := ho10.rd
                  subst hv10
                  have q4 := hMY10.cells.2.2.2.2.1
                  have q6 := hMY10.cells.2.2.2.2.2.2.1
                  have z4 := hMY10.frozen 4
                  have z6 := hMY10.frozen 6
                  have hBm := hB10.size
                  clear hMX9 hMY9 hOX9 hOY9 hB9 hg9 f10
                  go_wp2_with fail
                  clear q4 q6 z4 z6
                  have hMXe := ((hMX10.other (a := ⟨X + 1, 4, none⟩) (by simp) (.bool true)).other (a := ⟨X + 1, 6, none⟩) (by simp) (.int .i64 9)).alloc (.cells #[.int .i64 (ofR r).1, .string (ofR r).2] 27)
                  have hMYe := ((hMY10.set4 true).set6 9).alloc (.cells #[.int .i64 (ofR r).1, .string (ofR r).2] 27)
                  have hOXe := ((hOX10.setCell (a := ⟨X + 1, 4, none⟩) (by simp) (.bool true)).setCell (a := ⟨X + 1, 6, none⟩) (by simp) (.int .i64 9)).alloc (.cells #[.int .i64 (ofR r).1, .string (ofR r).2] 27)
                  have hOYe := ((hOY10.setCell (a := ⟨X + 1, 4, none⟩) (by simp) (.bool true)).setCell (a := ⟨X + 1, 6, none⟩) (by simp) (.int .i64 9)).alloc (.cells #[.int .i64 (ofR r).1, .string (ofR r).2] 27)
                  have hOPe := ((ho10.setCell (a := ⟨X + 1, 4, none⟩) hY9 (.bool true)).setCell (a := ⟨X + 1, 6, none⟩) hY9 (.int .i64 9)).alloc (.cells #[.int .i64 (ofR r).1, .string (ofR r).2] 27)
                  have hBe := (((hB10.setCell (p := ⟨X + 1, 4, none⟩) (by simp; omega) (.bool true)).setCell (p := ⟨X + 1, 6, none⟩) (by simp; omega) (.int .i64 9)).alloc (by simp; omega) (.cells #[.int .i64 (ofR r).1, .string (ofR r).2] 27)).drew
                  have hbx := heap_alloc_new ((w10.setCell ⟨X + 1, 4, none⟩ (.bool true)).setCell ⟨X + 1, 6, none⟩ (.int .i64 9)) (.cells #[.int .i64 (ofR r).1, .string (ofR r).2] 27)
                  rw [show ((w10.setCell ⟨X + 1, 4, none⟩ (.bool true)).setCell ⟨X + 1, 6, none⟩ (.int .i64 9)).heap.size = w10.heap.size from by simp] at hbx
                  have hSe : SK X w10.heap.size (.slice ax (tysOf zs).length cx) (.slice ay (tysOf ys).length cy) (ofR r) (ofR s) _ := ⟨hMXe, hMYe, by simp, Lib.cell_of_heap hbx 0, Lib.cell_of_heap hbx 1⟩
                  clear hMX10 hMY10 hOX10 hOY10 ho10 hB10 hMXe hMYe hbx
                  go_region_held3 (fun w' => w'.cell? ⟨X, 0, none⟩ = some (.string ⟨#[102]⟩) ∧ w'.cell? ⟨X, 1, none⟩ = some ((.slice ax (tysOf zs).length cx)) ∧ w'.cell? ⟨X, 2, none⟩ = some (.int .i64 (ofR r).1) ∧ w'.cell? ⟨X, 3, none⟩ = some (.string (ofR r).2) ∧ w'.cell? ⟨X, 4, none⟩ = some (.bool false) ∧ w'.cell? ⟨X, 5, none⟩ = some (.bool false) ∧ w'.cell? ⟨X, 6, none⟩ = some (.int .i64 0) ∧ w'.cell? ⟨X, 7, none⟩ = some (.slice none 0 0) ∧ w'.cell? ⟨X, 8, none⟩ = some (.slice none 0 0) ∧ w'.cell? ⟨(X + 1), 0, none⟩ = some (.string ⟨#[102]⟩) ∧ w'.cell? ⟨(X + 1), 1, none⟩ = some ((.slice ay (tysOf ys).length cy)) ∧ w'.cell? ⟨(X + 1), 2, none⟩ = some (.int .i64 (ofR s).1) ∧ w'.cell? ⟨(X + 1), 3, none⟩ = some (.string (ofR s).2) ∧ w'.cell? ⟨(X + 1), 4, none⟩ = some (.bool true) ∧ w'.cell? ⟨(X + 1), 5, none⟩ = some (.bool false) ∧ w'.cell? ⟨(X + 1), 6, none⟩ = some (.int .i64 9) ∧ w'.cell? ⟨(X + 1), 7, none⟩ = some (.slice none 0 0) ∧ w'.cell? ⟨(X + 1), 8, none⟩ = some (.slice none 0 0) ∧ w'.cell? ⟨w10.heap.size, 0, none⟩ = some (.int .i64 (ofR r).1) ∧ w'.cell? ⟨w10.heap.size, 1, none⟩ = some (.string (ofR r).2))
                    (first | exact hSe.cells | exact hS1.cells | exact hS2.cells | exact hS3.cells)
                    (first
                      | (go_at_call 13; refine (same_at (sameB_self (tysOf zs)) hOP2.rd hOX2.rd (by omega) (by omega)).mono ?_; rintro e w13 ⟨rfl, f13⟩; have hS3 := hS2.next f13; have hB3 := hB2.trans (f13.mono hB2.size))
                      | (go_at_call 22; refine (key_any ⟨#[102]⟩ (.slice ay (tysOf ys).length cy) (tysOf ys) (ofR s).1 (ofR s).2 true false 9 (.slice none 0 0) (.slice none 0 0) _ hOY1.rd (by omega) (tysOf_size ys) (Nat.le_trans (ofR_size s) (by decide)) (by decide)).mono ?_; rintro e w12 ⟨rfl, f12⟩; have hS2 := hS1.next f12; have hB2 := hB1.trans (f12.mono hB1.size); have hOX2 := hOX1.below f12 (Nat.le_refl _); have hOP2 := hOP1.below f12 (Nat.le_refl _))
                      | (go_at_call 22; refine (key_any ⟨#[102]⟩ (.slice ax (tysOf zs).length cx) (tysOf zs) (ofR r).1 (ofR r).2 false false 0 (.slice none 0 0) (.slice none 0 0) _ hOXe.drew.rd (by omega) (tysOf_size zs) (Nat.le_trans (ofR_size r) (by decide)) (by decide)).mono ?_; rintro e w11 ⟨rfl, f11⟩; have hS1 := hSe.drew.next f11; have hB1 := hBe.trans (f11.mono hBe.size); have hOX1 := hOXe.drew.below f11 (Nat.le_refl _); have hOY1 := hOYe.drew.below f11 (Nat.le_refl _); have hOP1 := hOPe.drew.below f11 (Nat.le_refl _)))
                  go_wp2_with fail
                  go_ret
                  exact ⟨ret_bool (by first | rfl | (simp; done) | simp [*]), hB3⟩
              · have hb1 : ((ofR r).1 == (ofR s).1) = false := by rw [beq_eq_false_iff_ne]; exact hk1
                have hke : (((⟨#[102]⟩ : ByteArray) ++ bx (ofL (tysOf zs) ((ofR r).1, (ofR r).2))).toList == ((⟨#[102]⟩ : ByteArray) ++ bx (ofL (tysOf ys) ((ofR s).1, (ofR s).2))).toList) = false := by
                  rw [beq_eq_false_iff_ne]
                  intro e
                  exact hk1 (congrArg Prod.fst (key_eq zs ys r s h8' h9' (toList_inj e)).2)
                clear hk1
                have hXl := hMX.lt
                have hYl := hMY.lt
                have g1 := hMX.cells.2.1
                have g4 := hMY.cells.2.1
                go_wp2_with fail
                refine (same_at hsb hOX.rd hOY.rd (by omega) (by omega)).mono ?_
                rintro e w8 ⟨rfl, f8⟩
                have hMX8 := hMX.below f8 hXl
                have hMY8 := hMY.below f8 hYl
                have hOX8 := hOX.below f8 (Nat.le_refl _)
                have hOY8 := hOY.below f8 (Nat.le_refl _)
                have hB8 := hbl.trans (f8.mono hbl.size)
                clear g1 g4
                have g1 := hMX8.cells.2.1
                have g2 := hMX8.cells.2.2.1
                have g3 := hMX8.cells.2.2.2.1
                have g5 := hMY8.cells.2.2.1
                have g6 := hMY8.cells.2.2.2.1
                clear hMX hMY hOX hOY hbl hXl hYl f8
                go_wp2_with fail
                refine (of_any _ (tysOf zs) _ _ _ hOX8.rd (by omega) (tysOf_size zs) (Nat.le_trans (ofR_size r) (by decide))).mono ?_
                rintro e w9 ⟨rfl, f9⟩
                have hMX9 := hMX8.below f9 hMX8.lt
                have hMY9 := hMY8.below f9 hMY8.lt
                have hOX9 := hOX8.below f9 (Nat.le_refl _)
                have hOY9 := hOY8.below f9 (Nat.le_refl _)
                have hB9 := hB8.trans (f9.mono hB8.size)
                have hg9 := hg.below hB9 (Nat.le_refl _)
                have hY9 := hMY9.lt
                clear g1 g2 g3 g5 g6 hMX8 hMY8 hOX8 hOY8 hB8 f9
                go_wp2_with fail
                refine (parse_at (ps := tysOf zs) (t := ofR r) (ok := true) (parseR_of (tysOf_right zs) hlx (ofR_right r).1) _ hg9 (of_small zs r hlx)).mono ?_
                rintro e w10 ⟨v10, rfl, ho10, f10⟩
                rw [show tyv (ofR r) = .agg #[.int .i64 (ofR r).1, .string (ofR r).2] from rfl]
                have hMX10 := hMX9.below f10 hMX9.lt
                have hMY10 := hMY9.below f10 hMY9.lt
                have hOX10 := hOX9.below f10 (Nat.le_refl _)
                have hOY10 := hOY9.below f10 (Nat.le_refl _)
                have hB10 := hB9.trans (f10.mono hB9.size)
                have hXl10 := hMX10.lt
                have hYl10 := hMY10.lt
                have hYn10 : ¬ X + 1 = w10.heap.size := by omega
                obtain ⟨a10, c10, hv10, _⟩ := ho10.rd
                subst hv10
                have q4 := hMY10.cells.2.2.2.2.1
                have q6 := hMY10.cells.2.2.2.2.2.2.1
                have z4 := hMY10.frozen 4
                have z6 := hMY10.frozen 6
                have hBm := hB10.size
                clear hMX9 hMY9 hOX9 hOY9 hB9 hg9 f10
                go_wp2_with fail
                clear q4 q6 z4 z6
                have hMXe := ((hMX10.other (a := ⟨X + 1, 4, none⟩) (by simp) (.bool true)).other (a := ⟨X + 1, 6, none⟩) (by simp) (.int .i64 9)).alloc (.cells #[.int .i64 (ofR r).1, .string (ofR r).2] 27)
                have hMYe := ((hMY10.set4 true).set6 9).alloc (.cells #[.int .i64 (ofR r).1, .string (ofR r).2] 27)
                have hOXe := ((hOX10.setCell (a := ⟨X + 1, 4, none⟩) (by simp) (.bool true)).setCell (a := ⟨X + 1, 6, none⟩) (by simp) (.int .i64 9)).alloc (.cells #[.int .i64 (ofR r).1, .string (ofR r).2] 27)
                have hOYe := ((hOY10.setCell (a := ⟨X + 1, 4, none⟩) (by simp) (.bool true)).setCell (a := ⟨X + 1, 6, none⟩) (by simp) (.int .i64 9)).alloc (.cells #[.int .i64 (ofR r).1, .string (ofR r).2] 27)
                have hOPe := ((ho10.setCell (a := ⟨X + 1, 4, none⟩) hY9 (.bool true)).setCell (a := ⟨X + 1, 6, none⟩) hY9 (.int .i64 9)).alloc (.cells #[.int .i64 (ofR r).1, .string (ofR r).2] 27)
                have hBe := (((hB10.setCell (p := ⟨X + 1, 4, none⟩) (by simp; omega) (.bool true)).setCell (p := ⟨X + 1, 6, none⟩) (by simp; omega) (.int .i64 9)).alloc (by simp; omega) (.cells #[.int .i64 (ofR r).1, .string (ofR r).2] 27)).drew
                have hbx := heap_alloc_new ((w10.setCell ⟨X + 1, 4, none⟩ (.bool true)).setCell ⟨X + 1, 6, none⟩ (.int .i64 9)) (.cells #[.int .i64 (ofR r).1, .string (ofR r).2] 27)
                rw [show ((w10.setCell ⟨X + 1, 4, none⟩ (.bool true)).setCell ⟨X + 1, 6, none⟩ (.int .i64 9)).heap.size = w10.heap.size from by simp] at hbx
                have hSe : SK X w10.heap.size (.slice ax (tysOf zs).length cx) (.slice ay (tysOf ys).length cy) (ofR r) (ofR s) _ := ⟨hMXe, hMYe, by simp, Lib.cell_of_heap hbx 0, Lib.cell_of_heap hbx 1⟩
                clear hMX10 hMY10 hOX10 hOY10 ho10 hB10 hMXe hMYe hbx
                go_region_held3 (fun w' => w'.cell? ⟨X, 0, none⟩ = some (.string ⟨#[102]⟩) ∧ w'.cell? ⟨X, 1, none⟩ = some ((.slice ax (tysOf zs).length cx)) ∧ w'.cell? ⟨X, 2, none⟩ = some (.int .i64 (ofR r).1) ∧ w'.cell? ⟨X, 3, none⟩ = some (.string (ofR r).2) ∧ w'.cell? ⟨X, 4, none⟩ = some (.bool false) ∧ w'.cell? ⟨X, 5, none⟩ = some (.bool false) ∧ w'.cell? ⟨X, 6, none⟩ = some (.int .i64 0) ∧ w'.cell? ⟨X, 7, none⟩ = some (.slice none 0 0) ∧ w'.cell? ⟨X, 8, none⟩ = some (.slice none 0 0) ∧ w'.cell? ⟨(X + 1), 0, none⟩ = some (.string ⟨#[102]⟩) ∧ w'.cell? ⟨(X + 1), 1, none⟩ = some ((.slice ay (tysOf ys).length cy)) ∧ w'.cell? ⟨(X + 1), 2, none⟩ = some (.int .i64 (ofR s).1) ∧ w'.cell? ⟨(X + 1), 3, none⟩ = some (.string (ofR s).2) ∧ w'.cell? ⟨(X + 1), 4, none⟩ = some (.bool true) ∧ w'.cell? ⟨(X + 1), 5, none⟩ = some (.bool false) ∧ w'.cell? ⟨(X + 1), 6, none⟩ = some (.int .i64 9) ∧ w'.cell? ⟨(X + 1), 7, none⟩ = some (.slice none 0 0) ∧ w'.cell? ⟨(X + 1), 8, none⟩ = some (.slice none 0 0) ∧ w'.cell? ⟨w10.heap.size, 0, none⟩ = some (.int .i64 (ofR r).1) ∧ w'.cell? ⟨w10.heap.size, 1, none⟩ = some (.string (ofR r).2))
                  (first | exact hSe.cells | exact hS1.cells | exact hS2.cells | exact hS3.cells)
                  (first
                    | (go_at_call 13; refine (same_at (sameB_self (tysOf zs)) hOP2.rd hOX2.rd (by omega) (by omega)).mono ?_; rintro e w13 ⟨rfl, f13⟩; have hS3 := hS2.next f13; have hB3 := hB2.trans (f13.mono hB2.size))
                    | (go_at_call 22; refine (key_any ⟨#[102]⟩ (.slice ay (tysOf ys).length cy) (tysOf ys) (ofR s).1 (ofR s).2 true false 9 (.slice none 0 0) (.slice none 0 0) _ hOY1.rd (by omega) (tysOf_size ys) (Nat.le_trans (ofR_size s) (by decide)) (by decide)).mono ?_; rintro e w12 ⟨rfl, f12⟩; have hS2 := hS1.next f12; have hB2 := hB1.trans (f12.mono hB1.size); have hOX2 := hOX1.below f12 (Nat.le_refl _); have hOP2 := hOP1.below f12 (Nat.le_refl _))
                    | (go_at_call 22; refine (key_any ⟨#[102]⟩ (.slice ax (tysOf zs).length cx) (tysOf zs) (ofR r).1 (ofR r).2 false false 0 (.slice none 0 0) (.slice none 0 0) _ hOXe.drew.rd (by omega) (tysOf_size zs) (Nat.le_trans (ofR_size r) (by decide)) (by decide)).mono ?_; rintro e w11 ⟨rfl, f11⟩; have hS1 := hSe.drew.next f11; have hB1 := hBe.trans (f11.mono hBe.size); have hOX1 := hOXe.drew.below f11 (Nat.le_refl _); have hOY1 := hOYe.drew.below f11 (Nat.le_refl _); have hOP1 := hOPe.drew.below f11 (Nat.le_refl _)))
                go_wp2_with fail
                go_ret
                exact ⟨ret_bool (by first | rfl | (simp; done) | simp [*]), hB3⟩
          | true =>
            have g1 := hMX.cells.2.1
            have g2 := hMX.cells.2.2.1
            have g3 := hMX.cells.2.2.2.1
            have g4 := hMY.cells.2.1
            have g5 := hMY.cells.2.2.1
            have g6 := hMY.cells.2.2.2.1
            have z1 := hMY.frozen 1
            have z2 := hMY.frozen 2
            have z3 := hMY.frozen 3
            have hsb := sameB_self (tysOf zs)
            go_wp2_with fail
            go_region
            have hMXn : MB _ X _ (ofR r) false 0 := (((hMX.other (a := ⟨X + 1, 1, none⟩) (by simp) (.slice ax (tysOf zs).length cx)).other (a := ⟨X + 1, 2, none⟩) (by simp) (.int .i64 (ofR r).1)).other (a := ⟨X + 1, 3, none⟩) (by simp) (.string (ofR r).2)).drew
            have hMYn : MB _ (X + 1) _ (ofR r) false 0 := (((hMY.set1 (.slice ax (tysOf zs).length cx)).set2 (ofR r).1).set3 (ofR r).2).drew
            have hOXn := (((hox.setCell (a := ⟨X + 1, 1, none⟩) (by simp) (.slice ax (tysOf zs).length cx)).setCell (a := ⟨X + 1, 2, none⟩) (by simp) (.int .i64 (ofR r).1)).setCell (a := ⟨X + 1, 3, none⟩) (by simp) (.string (ofR r).2)).drew
            have hbn := (((hbl.setCell (p := ⟨X + 1, 1, none⟩) (by simp; omega) (.slice ax (tysOf zs).length cx)).setCell (p := ⟨X + 1, 2, none⟩) (by simp; omega) (.int .i64 (ofR r).1)).setCell (p := ⟨X + 1, 3, none⟩) (by simp; omega) (.string (ofR r).2)).drew
            obtain ⟨wn, hwn⟩ : ∃ wn, ((wr.setCell ⟨X + 1, 1, none⟩ (.slice ax (tysOf zs).length cx)).setCell ⟨X + 1, 2, none⟩ (.int .i64 (ofR r).1)).setCell ⟨X + 1, 3, none⟩ (.string (ofR r).2) = wn := ⟨_, rfl⟩
            rw [hwn] at hMXn hMYn hOXn hbn ⊢
            clear hMX hMY hox ho hbl g1 g2 g3 g4 g5 g6 z1 z2 z3 hwn hCr
            have hMX := hMXn
            have hMY := hMYn
            have hOX := hOXn
            have hOY := hOXn
            have hbl := hbn
            clear hMXn hMYn hOXn hbn
            have hXl := hMX.lt
            have hYl := hMY.lt
            have g1 := hMX.cells.2.1
            have g4 := hMY.cells.2.1
            go_wp2_with fail
            refine (same_at hsb hOX.rd hOY.rd (by omega) (by omega)).mono ?_
            rintro e w8 ⟨rfl, f8⟩
            have hMX8 := hMX.below f8 hXl
            have hMY8 := hMY.below f8 hYl
            have hOX8 := hOX.below f8 (Nat.le_refl _)
            have hOY8 := hOY.below f8 (Nat.le_refl _)
            have hB8 := hbl.trans (f8.mono hbl.size)
            clear g1 g4
            have g1 := hMX8.cells.2.1
            have g2 := hMX8.cells.2.2.1
            have g3 := hMX8.cells.2.2.2.1
            have g5 := hMY8.cells.2.2.1
            have g6 := hMY8.cells.2.2.2.1
            clear hMX hMY hOX hOY hbl hXl hYl f8
            go_wp2_with fail
            refine (of_any _ (tysOf zs) _ _ _ hOX8.rd (by omega) (tysOf_size zs) (Nat.le_trans (ofR_size r) (by decide))).mono ?_
            rintro e w9 ⟨rfl, f9⟩
            have hMX9 := hMX8.below f9 hMX8.lt
            have hMY9 := hMY8.below f9 hMY8.lt
            have hOX9 := hOX8.below f9 (Nat.le_refl _)
            have hOY9 := hOY8.below f9 (Nat.le_refl _)
            have hB9 := hB8.trans (f9.mono hB8.size)
            have hg9 := hg.below hB9 (Nat.le_refl _)
            have hY9 := hMY9.lt
            clear g1 g2 g3 g5 g6 hMX8 hMY8 hOX8 hOY8 hB8 f9
            go_wp2_with fail
            refine (parse_at (ps := tysOf zs) (t := ofR r) (ok := true) (parseR_of (tysOf_right zs) hlx (ofR_right r).1) _ hg9 (of_small zs r hlx)).mono ?_
            rintro e w10 ⟨v10, rfl, ho10, f10⟩
            rw [show tyv (ofR r) = .agg #[.int .i64 (ofR r).1, .string (ofR r).2] from rfl]
            have hMX10 := hMX9.below f10 hMX9.lt
            have hMY10 := hMY9.below f10 hMY9.lt
            have hOX10 := hOX9.below f10 (Nat.le_refl _)
            have hOY10 := hOY9.below f10 (Nat.le_refl _)
            have hB10 := hB9.trans (f10.mono hB9.size)
            have hXl10 := hMX10.lt
            have hYl10 := hMY10.lt
            have hYn10 : ¬ X + 1 = w10.heap.size := by omega
            obtain ⟨a10, c10, hv10, _⟩ := ho10.rd
            subst hv10
            have q4 := hMY10.cells.2.2.2.2.1
            have q6 := hMY10.cells.2.2.2.2.2.2.1
            have z4 := hMY10.frozen 4
            have z6 := hMY10.frozen 6
            have hBm := hB10.size
            clear hMX9 hMY9 hOX9 hOY9 hB9 hg9 f10
            go_wp2_with fail
            clear q4 q6 z4 z6
            have hMXe := ((hMX10.other (a := ⟨X + 1, 4, none⟩) (by simp) (.bool true)).other (a := ⟨X + 1, 6, none⟩) (by simp) (.int .i64 9)).alloc (.cells #[.int .i64 (ofR r).1, .string (ofR r).2] 27)
            have hMYe := ((hMY10.set4 true).set6 9).alloc (.cells #[.int .i64 (ofR r).1, .string (ofR r).2] 27)
            have hOXe := ((hOX10.setCell (a := ⟨X + 1, 4, none⟩) (by simp) (.bool true)).setCell (a := ⟨X + 1, 6, none⟩) (by simp) (.int .i64 9)).alloc (.cells #[.int .i64 (ofR r).1, .string (ofR r).2] 27)
            have hOYe := ((hOY10.setCell (a := ⟨X + 1, 4, none⟩) (by simp) (.bool true)).setCell (a := ⟨X + 1, 6, none⟩) (by simp) (.int .i64 9)).alloc (.cells #[.int .i64 (ofR r).1, .string (ofR r).2] 27)
            have hOPe := ((ho10.setCell (a := ⟨X + 1, 4, none⟩) hY9 (.bool true)).setCell (a := ⟨X + 1, 6, none⟩) hY9 (.int .i64 9)).alloc (.cells #[.int .i64 (ofR r).1, .string (ofR r).2] 27)
            have hBe := (((hB10.setCell (p := ⟨X + 1, 4, none⟩) (by simp; omega) (.bool true)).setCell (p := ⟨X + 1, 6, none⟩) (by simp; omega) (.int .i64 9)).alloc (by simp; omega) (.cells #[.int .i64 (ofR r).1, .string (ofR r).2] 27)).drew
            have hbx := heap_alloc_new ((w10.setCell ⟨X + 1, 4, none⟩ (.bool true)).setCell ⟨X + 1, 6, none⟩ (.int .i64 9)) (.cells #[.int .i64 (ofR r).1, .string (ofR r).2] 27)
            rw [show ((w10.setCell ⟨X + 1, 4, none⟩ (.bool true)).setCell ⟨X + 1, 6, none⟩ (.int .i64 9)).heap.size = w10.heap.size from by simp] at hbx
            have hSe : SK X w10.heap.size (.slice ax (tysOf zs).length cx) (.slice ax (tysOf zs).length cx) (ofR r) (ofR r) _ := ⟨hMXe, hMYe, by simp, Lib.cell_of_heap hbx 0, Lib.cell_of_heap hbx 1⟩
            clear hMX10 hMY10 hOX10 hOY10 ho10 hB10 hMXe hMYe hbx
            go_region_held3 (fun w' => w'.cell? ⟨X, 0, none⟩ = some (.string ⟨#[102]⟩) ∧ w'.cell? ⟨X, 1, none⟩ = some ((.slice ax (tysOf zs).length cx)) ∧ w'.cell? ⟨X, 2, none⟩ = some (.int .i64 (ofR r).1) ∧ w'.cell? ⟨X, 3, none⟩ = some (.string (ofR r).2) ∧ w'.cell? ⟨X, 4, none⟩ = some (.bool false) ∧ w'.cell? ⟨X, 5, none⟩ = some (.bool false) ∧ w'.cell? ⟨X, 6, none⟩ = some (.int .i64 0) ∧ w'.cell? ⟨X, 7, none⟩ = some (.slice none 0 0) ∧ w'.cell? ⟨X, 8, none⟩ = some (.slice none 0 0) ∧ w'.cell? ⟨(X + 1), 0, none⟩ = some (.string ⟨#[102]⟩) ∧ w'.cell? ⟨(X + 1), 1, none⟩ = some ((.slice ax (tysOf zs).length cx)) ∧ w'.cell? ⟨(X + 1), 2, none⟩ = some (.int .i64 (ofR r).1) ∧ w'.cell? ⟨(X + 1), 3, none⟩ = some (.string (ofR r).2) ∧ w'.cell? ⟨(X + 1), 4, none⟩ = some (.bool true) ∧ w'.cell? ⟨(X + 1), 5, none⟩ = some (.bool false) ∧ w'.cell? ⟨(X + 1), 6, none⟩ = some (.int .i64 9) ∧ w'.cell? ⟨(X + 1), 7, none⟩ = some (.slice none 0 0) ∧ w'.cell? ⟨(X + 1), 8, none⟩ = some (.slice none 0 0) ∧ w'.cell? ⟨w10.heap.size, 0, none⟩ = some (.int .i64 (ofR r).1) ∧ w'.cell? ⟨w10.heap.size, 1, none⟩ = some (.string (ofR r).2))
              (first | exact hSe.cells | exact hS1.cells | exact hS2.cells | exact hS3.cells)
              (first
                | (go_at_call 13; refine (same_at (sameB_self (tysOf zs)) hOP2.rd hOX2.rd (by omega) (by omega)).mono ?_; rintro e w13 ⟨rfl, f13⟩; have hS3 := hS2.next f13; have hB3 := hB2.trans (f13.mono hB2.size))
                | (go_at_call 22; refine (key_any ⟨#[102]⟩ (.slice ax (tysOf zs).length cx) (tysOf zs) (ofR r).1 (ofR r).2 true false 9 (.slice none 0 0) (.slice none 0 0) _ hOY1.rd (by omega) (tysOf_size zs) (Nat.le_trans (ofR_size r) (by decide)) (by decide)).mono ?_; rintro e w12 ⟨rfl, f12⟩; have hS2 := hS1.next f12; have hB2 := hB1.trans (f12.mono hB1.size); have hOX2 := hOX1.below f12 (Nat.le_refl _); have hOP2 := hOP1.below f12 (Nat.le_refl _))
                | (go_at_call 22; refine (key_any ⟨#[102]⟩ (.slice ax (tysOf zs).length cx) (tysOf zs) (ofR r).1 (ofR r).2 false false 0 (.slice none 0 0) (.slice none 0 0) _ hOXe.drew.rd (by omega) (tysOf_size zs) (Nat.le_trans (ofR_size r) (by decide)) (by decide)).mono ?_; rintro e w11 ⟨rfl, f11⟩; have hS1 := hSe.drew.next f11; have hB1 := hBe.trans (f11.mono hBe.size); have hOX1 := hOXe.drew.below f11 (Nat.le_refl _); have hOY1 := hOYe.drew.below f11 (Nat.le_refl _); have hOP1 := hOPe.drew.below f11 (Nat.le_refl _)))
            go_wp2_with fail
            go_ret
            exact ⟨ret_bool (by first | rfl | (simp; done) | simp [*]), hB3⟩
end Go.Proofs.Ytijbgbggmakfoaa
