/- The law OpRight walked. -/
import Derived.Test.YtibciicpgjgjbaaDoorOUses
import Derived.Deep.DeepCutAuto
import Derived.Deep.CutBlock
namespace Go.Proofs.YtibciicpgjgjbaaDoor
open Go.RowKit

theorem and4095 (n : Int) : bits .and .i64 n 4095 = n % 4096 := by
  have hm : (BitVec.ofInt 64 4095).toNat = 2 ^ 12 - 1 := by decide
  have e : (BitVec.ofInt 64 n &&& BitVec.ofInt 64 4095).toNat = (n % ((2 ^ 64 : Nat) : Int)).toNat % 2 ^ 12 := by
    rw [BitVec.toNat_and, BitVec.toNat_ofInt, hm, Nat.and_two_pow_sub_one_eq_mod]
  show IntKind.i64.wrap ((BitVec.ofInt 64 n &&& BitVec.ofInt 64 4095).toNat : Nat) = n % 4096
  rw [e, IntKind.wrap_i64]
  omega

/-- how long the text behind an instruction's third place is -/
def szAt (w : World) (X : Nat) : Nat := match w.cell? ⟨X, 3, none⟩ with | some (.string s) => s.size | _ => 0

/-- the five instructions that are asked -/
def fiveI (r i f g b : Ins) : Nat → Ins | 0 => r | 1 => i | 2 => f | 3 => g | _ => b

theorem five_ins (w : World) (r i f g b : Ins) : ∀ j, j < 5 → (w.alloc (.cells #[Value.int .i64 r.1, Value.int .i32 r.2.1, Value.int .i64 r.2.2.1, Value.string r.2.2.2.1, Value.string r.2.2.2.2.1, Value.string r.2.2.2.2.2.1, Value.string r.2.2.2.2.2.2, Value.int .i64 i.1, Value.int .i32 i.2.1, Value.int .i64 i.2.2.1, Value.string i.2.2.2.1, Value.string i.2.2.2.2.1, Value.string i.2.2.2.2.2.1, Value.string i.2.2.2.2.2.2, Value.int .i64 f.1, Value.int .i32 f.2.1, Value.int .i64 f.2.2.1, Value.string f.2.2.2.1, Value.string f.2.2.2.2.1, Value.string f.2.2.2.2.2.1, Value.string f.2.2.2.2.2.2, Value.int .i64 g.1, Value.int .i32 g.2.1, Value.int .i64 g.2.2.1, Value.string g.2.2.2.1, Value.string g.2.2.2.2.1, Value.string g.2.2.2.2.2.1, Value.string g.2.2.2.2.2.2, Value.int .i64 b.1, Value.int .i32 b.2.1, Value.int .i64 b.2.2.1, Value.string b.2.2.2.1, Value.string b.2.2.2.2.1, Value.string b.2.2.2.2.2.1, Value.string b.2.2.2.2.2.2] 29)).cell? ⟨w.heap.size, j * 7, none⟩ = some (Value.int .i64 (fiveI r i f g b j).1) ∧ (w.alloc (.cells #[Value.int .i64 r.1, Value.int .i32 r.2.1, Value.int .i64 r.2.2.1, Value.string r.2.2.2.1, Value.string r.2.2.2.2.1, Value.string r.2.2.2.2.2.1, Value.string r.2.2.2.2.2.2, Value.int .i64 i.1, Value.int .i32 i.2.1, Value.int .i64 i.2.2.1, Value.string i.2.2.2.1, Value.string i.2.2.2.2.1, Value.string i.2.2.2.2.2.1, Value.string i.2.2.2.2.2.2, Value.int .i64 f.1, Value.int .i32 f.2.1, Value.int .i64 f.2.2.1, Value.string f.2.2.2.1, Value.string f.2.2.2.2.1, Value.string f.2.2.2.2.2.1, Value.string f.2.2.2.2.2.2, Value.int .i64 g.1, Value.int .i32 g.2.1, Value.int .i64 g.2.2.1, Value.string g.2.2.2.1, Value.string g.2.2.2.2.1, Value.string g.2.2.2.2.2.1, Value.string g.2.2.2.2.2.2, Value.int .i64 b.1, Value.int .i32 b.2.1, Value.int .i64 b.2.2.1, Value.string b.2.2.2.1, Value.string b.2.2.2.2.1, Value.string b.2.2.2.2.2.1, Value.string b.2.2.2.2.2.2] 29)).cell? ⟨w.heap.size, j * 7 + 1, none⟩ = some (Value.int .i32 (fiveI r i f g b j).2.1) ∧ (w.alloc (.cells #[Value.int .i64 r.1, Value.int .i32 r.2.1, Value.int .i64 r.2.2.1, Value.string r.2.2.2.1, Value.string r.2.2.2.2.1, Value.string r.2.2.2.2.2.1, Value.string r.2.2.2.2.2.2, Value.int .i64 i.1, Value.int .i32 i.2.1, Value.int .i64 i.2.2.1, Value.string i.2.2.2.1, Value.string i.2.2.2.2.1, Value.string i.2.2.2.2.2.1, Value.string i.2.2.2.2.2.2, Value.int .i64 f.1, Value.int .i32 f.2.1, Value.int .i64 f.2.2.1, Value.string f.2.2.2.1, Value.string f.2.2.2.2.1, Value.string f.2.2.2.2.2.1, Value.string f.2.2.2.2.2.2, Value.int .i64 g.1, Value.int .i32 g.2.1, Value.int .i64 g.2.2.1, Value.string g.2.2.2.1, Value.string g.2.2.2.2.1, Value.string g.2.2.2.2.2.1, Value.string g.2.2.2.2.2.2, Value.int .i64 b.1, Value.int .i32 b.2.1, Value.int .i64 b.2.2.1, Value.string b.2.2.2.1, Value.string b.2.2.2.2.1, Value.string b.2.2.2.2.2.1, Value.string b.2.2.2.2.2.2] 29)).cell? ⟨w.heap.size, j * 7 + 2, none⟩ = some (Value.int .i64 (fiveI r i f g b j).2.2.1) ∧ (w.alloc (.cells #[Value.int .i64 r.1, Value.int .i32 r.2.1, Value.int .i64 r.2.2.1, Value.string r.2.2.2.1, Value.string r.2.2.2.2.1, Value.string r.2.2.2.2.2.1, Value.string r.2.2.2.2.2.2, Value.int .i64 i.1, Value.int .i32 i.2.1, Value.int .i64 i.2.2.1, Value.string i.2.2.2.1, Value.string i.2.2.2.2.1, Value.string i.2.2.2.2.2.1, Value.string i.2.2.2.2.2.2, Value.int .i64 f.1, Value.int .i32 f.2.1, Value.int .i64 f.2.2.1, Value.string f.2.2.2.1, Value.string f.2.2.2.2.1, Value.string f.2.2.2.2.2.1, Value.string f.2.2.2.2.2.2, Value.int .i64 g.1, Value.int .i32 g.2.1, Value.int .i64 g.2.2.1, Value.string g.2.2.2.1, Value.string g.2.2.2.2.1, Value.string g.2.2.2.2.2.1, Value.string g.2.2.2.2.2.2, Value.int .i64 b.1, Value.int .i32 b.2.1, Value.int .i64 b.2.2.1, Value.string b.2.2.2.1, Value.string b.2.2.2.2.1, Value.string b.2.2.2.2.2.1, Value.string b.2.2.2.2.2.2] 29)).cell? ⟨w.heap.size, j * 7 + 3, none⟩ = some (Value.string (fiveI r i f g b j).2.2.2.1) ∧ (w.alloc (.cells #[Value.int .i64 r.1, Value.int .i32 r.2.1, Value.int .i64 r.2.2.1, Value.string r.2.2.2.1, Value.string r.2.2.2.2.1, Value.string r.2.2.2.2.2.1, Value.string r.2.2.2.2.2.2, Value.int .i64 i.1, Value.int .i32 i.2.1, Value.int .i64 i.2.2.1, Value.string i.2.2.2.1, Value.string i.2.2.2.2.1, Value.string i.2.2.2.2.2.1, Value.string i.2.2.2.2.2.2, Value.int .i64 f.1, Value.int .i32 f.2.1, Value.int .i64 f.2.2.1, Value.string f.2.2.2.1, Value.string f.2.2.2.2.1, Value.string f.2.2.2.2.2.1, Value.string f.2.2.2.2.2.2, Value.int .i64 g.1, Value.int .i32 g.2.1, Value.int .i64 g.2.2.1, Value.string g.2.2.2.1, Value.string g.2.2.2.2.1, Value.string g.2.2.2.2.2.1, Value.string g.2.2.2.2.2.2, Value.int .i64 b.1, Value.int .i32 b.2.1, Value.int .i64 b.2.2.1, Value.string b.2.2.2.1, Value.string b.2.2.2.2.1, Value.string b.2.2.2.2.2.1, Value.string b.2.2.2.2.2.2] 29)).cell? ⟨w.heap.size, j * 7 + 4, none⟩ = some (Value.string (fiveI r i f g b j).2.2.2.2.1) ∧ (w.alloc (.cells #[Value.int .i64 r.1, Value.int .i32 r.2.1, Value.int .i64 r.2.2.1, Value.string r.2.2.2.1, Value.string r.2.2.2.2.1, Value.string r.2.2.2.2.2.1, Value.string r.2.2.2.2.2.2, Value.int .i64 i.1, Value.int .i32 i.2.1, Value.int .i64 i.2.2.1, Value.string i.2.2.2.1, Value.string i.2.2.2.2.1, Value.string i.2.2.2.2.2.1, Value.string i.2.2.2.2.2.2, Value.int .i64 f.1, Value.int .i32 f.2.1, Value.int .i64 f.2.2.1, Value.string f.2.2.2.1, Value.string f.2.2.2.2.1, Value.string f.2.2.2.2.2.1, Value.string f.2.2.2.2.2.2, Value.int .i64 g.1, Value.int .i32 g.2.1, Value.int .i64 g.2.2.1, Value.string g.2.2.2.1, Value.string g.2.2.2.2.1, Value.string g.2.2.2.2.2.1, Value.string g.2.2.2.2.2.2, Value.int .i64 b.1, Value.int .i32 b.2.1, Value.int .i64 b.2.2.1, Value.string b.2.2.2.1, Value.string b.2.2.2.2.1, Value.string b.2.2.2.2.2.1, Value.string b.2.2.2.2.2.2] 29)).cell? ⟨w.heap.size, j * 7 + 5, none⟩ = some (Value.string (fiveI r i f g b j).2.2.2.2.2.1) ∧ (w.alloc (.cells #[Value.int .i64 r.1, Value.int .i32 r.2.1, Value.int .i64 r.2.2.1, Value.string r.2.2.2.1, Value.string r.2.2.2.2.1, Value.string r.2.2.2.2.2.1, Value.string r.2.2.2.2.2.2, Value.int .i64 i.1, Value.int .i32 i.2.1, Value.int .i64 i.2.2.1, Value.string i.2.2.2.1, Value.string i.2.2.2.2.1, Value.string i.2.2.2.2.2.1, Value.string i.2.2.2.2.2.2, Value.int .i64 f.1, Value.int .i32 f.2.1, Value.int .i64 f.2.2.1, Value.string f.2.2.2.1, Value.string f.2.2.2.2.1, Value.string f.2.2.2.2.2.1, Value.string f.2.2.2.2.2.2, Value.int .i64 g.1, Value.int .i32 g.2.1, Value.int .i64 g.2.2.1, Value.string g.2.2.2.1, Value.string g.2.2.2.2.1, Value.string g.2.2.2.2.2.1, Value.string g.2.2.2.2.2.2, Value.int .i64 b.1, Value.int .i32 b.2.1, Value.int .i64 b.2.2.1, Value.string b.2.2.2.1, Value.string b.2.2.2.2.1, Value.string b.2.2.2.2.2.1, Value.string b.2.2.2.2.2.2] 29)).cell? ⟨w.heap.size, j * 7 + 6, none⟩ = some (Value.string (fiveI r i f g b j).2.2.2.2.2.2) := by
  intro j hj
  have hb := heap_alloc_new w (.cells #[Value.int .i64 r.1, Value.int .i32 r.2.1, Value.int .i64 r.2.2.1, Value.string r.2.2.2.1, Value.string r.2.2.2.2.1, Value.string r.2.2.2.2.2.1, Value.string r.2.2.2.2.2.2, Value.int .i64 i.1, Value.int .i32 i.2.1, Value.int .i64 i.2.2.1, Value.string i.2.2.2.1, Value.string i.2.2.2.2.1, Value.string i.2.2.2.2.2.1, Value.string i.2.2.2.2.2.2, Value.int .i64 f.1, Value.int .i32 f.2.1, Value.int .i64 f.2.2.1, Value.string f.2.2.2.1, Value.string f.2.2.2.2.1, Value.string f.2.2.2.2.2.1, Value.string f.2.2.2.2.2.2, Value.int .i64 g.1, Value.int .i32 g.2.1, Value.int .i64 g.2.2.1, Value.string g.2.2.2.1, Value.string g.2.2.2.2.1, Value.string g.2.2.2.2.2.1, Value.string g.2.2.2.2.2.2, Value.int .i64 b.1, Value.int .i32 b.2.1, Value.int .i64 b.2.2.1, Value.string b.2.2.2.1, Value.string b.2.2.2.2.1, Value.string b.2.2.2.2.2.1, Value.string b.2.2.2.2.2.2] 29)
  match j, hj with
  | 0, _ => exact ⟨Lib.cell_of_heap hb 0, Lib.cell_of_heap hb 1, Lib.cell_of_heap hb 2, Lib.cell_of_heap hb 3, Lib.cell_of_heap hb 4, Lib.cell_of_heap hb 5, Lib.cell_of_heap hb 6⟩
  | 1, _ => exact ⟨Lib.cell_of_heap hb 7, Lib.cell_of_heap hb 8, Lib.cell_of_heap hb 9, Lib.cell_of_heap hb 10, Lib.cell_of_heap hb 11, Lib.cell_of_heap hb 12, Lib.cell_of_heap hb 13⟩
  | 2, _ => exact ⟨Lib.cell_of_heap hb 14, Lib.cell_of_heap hb 15, Lib.cell_of_heap hb 16, Lib.cell_of_heap hb 17, Lib.cell_of_heap hb 18, Lib.cell_of_heap hb 19, Lib.cell_of_heap hb 20⟩
  | 3, _ => exact ⟨Lib.cell_of_heap hb 21, Lib.cell_of_heap hb 22, Lib.cell_of_heap hb 23, Lib.cell_of_heap hb 24, Lib.cell_of_heap hb 25, Lib.cell_of_heap hb 26, Lib.cell_of_heap hb 27⟩
  | 4, _ => exact ⟨Lib.cell_of_heap hb 28, Lib.cell_of_heap hb 29, Lib.cell_of_heap hb 30, Lib.cell_of_heap hb 31, Lib.cell_of_heap hb 32, Lib.cell_of_heap hb 33, Lib.cell_of_heap hb 34⟩

theorem five_all {P : Ins → Prop} {r i f g b : Ins} (h0 : P r) (h1 : P i) (h2 : P f) (h3 : P g) (h4 : P b) (j : Nat) : P (fiveI r i f g b j) := by
  match j with
  | 0 => exact h0
  | 1 => exact h1
  | 2 => exact h2
  | 3 => exact h3
  | _ + 4 => exact h4

def small (x : Ins) : Prop := x.2.2.2.1.size ≤ 1011 ∧ x.2.2.2.2.1.size ≤ 400 ∧ x.2.2.2.2.2.1.size ≤ 400 ∧ x.2.2.2.2.2.2.size ≤ 400

theorem row_next {w w' : World} {X p : Nat} {o n k : Int} {s c m d : ByteArray} (h : w.cell? ⟨X, p, none⟩ = some (Value.int .i64 o) ∧ w.cell? ⟨X, p + 1, none⟩ = some (Value.int .i32 n) ∧ w.cell? ⟨X, p + 2, none⟩ = some (Value.int .i64 k) ∧ w.cell? ⟨X, p + 3, none⟩ = some (Value.string s) ∧ w.cell? ⟨X, p + 4, none⟩ = some (Value.string c) ∧ w.cell? ⟨X, p + 5, none⟩ = some (Value.string m) ∧ w.cell? ⟨X, p + 6, none⟩ = some (Value.string d)) (hX : X < w.heap.size) (hb : Below w.heap.size w w') :
    w'.cell? ⟨X, p, none⟩ = some (Value.int .i64 o) ∧ w'.cell? ⟨X, p + 1, none⟩ = some (Value.int .i32 n) ∧ w'.cell? ⟨X, p + 2, none⟩ = some (Value.int .i64 k) ∧ w'.cell? ⟨X, p + 3, none⟩ = some (Value.string s) ∧ w'.cell? ⟨X, p + 4, none⟩ = some (Value.string c) ∧ w'.cell? ⟨X, p + 5, none⟩ = some (Value.string m) ∧ w'.cell? ⟨X, p + 6, none⟩ = some (Value.string d) := by
  obtain ⟨h0, h1, h2, h3, h4, h5, h6⟩ := h
  exact ⟨(hb.cell (p := ⟨X, p, none⟩) hX).trans h0, (hb.cell (p := ⟨X, p + 1, none⟩) hX).trans h1, (hb.cell (p := ⟨X, p + 2, none⟩) hX).trans h2, (hb.cell (p := ⟨X, p + 3, none⟩) hX).trans h3, (hb.cell (p := ⟨X, p + 4, none⟩) hX).trans h4, (hb.cell (p := ⟨X, p + 5, none⟩) hX).trans h5, (hb.cell (p := ⟨X, p + 6, none⟩) hX).trans h6⟩

theorem szAt_mk (w : World) (o n k : Int) (s c m d : ByteArray) : szAt (w.alloc (.cells #[Value.int .i64 o, Value.int .i32 n, Value.int .i64 k, Value.string s, Value.string c, Value.string m, Value.string d] 29)) w.heap.size = s.size := by
  unfold szAt
  rw [(ibox_at w o n k s c m d).2.2.2.1]

set_option maxHeartbeats 8000000 in
set_option maxRecDepth 100000 in
theorem right_law0 (o0 n0 k0 : Int) (s0 c0 m0 d0 : ByteArray) (a n k : Int) (c m d : ByteArray) (l wh : Int) (w : World) (ht : Tab w) (hg : Glob w) (h1 : s0.size + c0.size + m0.size + d0.size ≤ 400) (h2 : c.size + m.size + d.size ≤ 300) (o : Nat) (ho : a.tmod 44 = o) (ho1 : o < 44) (kk : Int) (hkk : bits .and .i64 k 4095 = kk) (L : Nat) (hL : l.tmod 1010 = L) (hL1 : L < 1010) (hq : wh.tmod 5 = 0 ∨ wh.tmod 5 = 1 ∨ wh.tmod 5 = 2 ∨ wh.tmod 5 = 3 ∨ wh.tmod 5 = 4) :
    Calls Tryd.prog 4 #[.agg #[Value.int .i64 o0, Value.int .i32 n0, Value.int .i64 k0, Value.string s0, Value.string c0, Value.string m0, Value.string d0], .int .u8 a, .int .i32 n, .int .i64 k, .string c, .string m, .string d, .int .u16 l, .int .u8 wh] w fun e w' => e = .returned (.bool true) ∧ Below w.heap.size w w' := by
  go_enter Tryd.func4, Tryd.ntmps4
  go_wp2_with fail
  refine (known_any _ (ht.alloc _) (hg.alloc _)).mono ?_
  rintro e w1 ⟨rfl, hb1⟩
  have hs1 : w.heap.size < w1.heap.size := Nat.lt_of_lt_of_le (by simp) hb1.size
  have hr1 := ibox_next (ibox_at w o0 n0 k0 s0 c0 m0 d0) (by simp) hb1
  have hB1 : Below w.heap.size w w1 := ((Below.refl _ _).alloc (Nat.le_refl _) _).trans (hb1.mono (by simp))
  clear hb1 ht
  go_wp2_with fail
  refine (ruses_any _ _).mono ?_
  rintro e w' ⟨rfl, rfl⟩
  obtain ⟨u, hu⟩ : ∃ u, usesI (((o : Int) + 1)) = u := ⟨_, rfl⟩
  have h7 := usesI_seven (((o : Int) + 1))
  rw [hu] at h7 ⊢
  clear hu
  obtain ⟨W2, hW2⟩ : ∃ W, ((w1.alloc (.cells #[Value.int .i64 ((o : Int) + 1), Value.int .i32 0, Value.int .i64 0, Value.string ⟨#[]⟩, Value.string ⟨#[]⟩, Value.string ⟨#[]⟩, Value.string ⟨#[]⟩] 29)).alloc (.cells #[Value.int .i64 ((o : Int) + 1), Value.int .i32 n, Value.int .i64 kk, Value.string m, Value.string c, Value.string m, Value.string d] 29)) = W := ⟨_, rfl⟩
  have hX : w1.heap.size + 1 + 1 = W2.heap.size := by rw [← hW2]; simp
  rw [hW2, hX]
  go_upto_block 0 with fail
  go_cut [] (fun wx => ∃ (go gn gk : Int) (gs gc gm gd : ByteArray), gs.size ≤ 1010 ∧ gc.size ≤ 300 ∧ gm.size ≤ 300 ∧ gd.size ≤ 300 ∧ wx = W2.alloc (.cells #[Value.int .i64 go, Value.int .i32 gn, Value.int .i64 gk, Value.string gs, Value.string gc, Value.string gm, Value.string gd] 29))
  case first =>
    rcases h7 with hu | hu | hu | hu | hu | hu | hu
    · subst hu
      go_wp2_with fail
      go_meet
      case rel => exact ⟨((o : Int) + 1), 0, 0, ⟨#[]⟩, ⟨#[]⟩, ⟨#[]⟩, ⟨#[]⟩, (by decide), (by decide), (by decide), (by decide), rfl⟩
    · subst hu
      go_wp2_with fail
      go_meet
      case rel => exact ⟨((o : Int) + 1), n, 0, ⟨#[]⟩, ⟨#[]⟩, ⟨#[]⟩, ⟨#[]⟩, (by decide), (by decide), (by decide), (by decide), rfl⟩
    · subst hu
      go_wp2_with fail
      go_loopw [] (fun wr => ∃ s : ByteArray, s.size ≤ L ∧ wr = W2.alloc (.cells #[Value.int .i64 ((o : Int) + 1), Value.int .i32 0, Value.int .i64 0, Value.string s, Value.string ⟨#[]⟩, Value.string ⟨#[]⟩, Value.string ⟨#[]⟩] 29)) (fun wr => L - szAt wr W2.heap.size)
      case atStart => exact ⟨⟨#[]⟩, Nat.zero_le _, rfl⟩
      case round =>
        obtain ⟨s, hs, hwr⟩ := hrel
        subst hwr
        have hz : szAt (W2.alloc (.cells #[Value.int .i64 ((o : Int) + 1), Value.int .i32 0, Value.int .i64 0, Value.string s, Value.string ⟨#[]⟩, Value.string ⟨#[]⟩, Value.string ⟨#[]⟩] 29)) W2.heap.size = s.size := szAt_mk _ _ _ _ _ _ _ _
        have hq : ¬ 9223372036854775807 < s.size + 1 := by omega
        by_cases hlt : s.size < L
        · go_wp2_with fail
          go_roundw
          case rel => exact ⟨s ++ ⟨#[120]⟩, by rw [ByteArray.size_append]; show s.size + 1 ≤ L; omega, rfl⟩
          case measure =>
            rw [szAt_mk, szAt_mk, ByteArray.size_append]
            show L - (s.size + 1) < L - s.size
            omega
        · obtain rfl : s.size = L := by omega
          go_wp2_with fail
          go_meet
          case rel => exact ⟨((o : Int) + 1), 0, 0, s, ⟨#[]⟩, ⟨#[]⟩, ⟨#[]⟩, (by omega), (by decide), (by decide), (by decide), rfl⟩
    · subst hu
      go_wp2_with fail
      go_meet
      case rel => exact ⟨((o : Int) + 1), 0, kk, ⟨#[]⟩, ⟨#[]⟩, ⟨#[]⟩, ⟨#[]⟩, (by decide), (by decide), (by decide), (by decide), rfl⟩
    · subst hu
      go_wp2_with fail
      go_meet
      case rel => exact ⟨((o : Int) + 1), 0, 0, ⟨#[]⟩, c, m, ⟨#[]⟩, (by decide), (by omega), (by omega), (by decide), rfl⟩
    · subst hu
      go_wp2_with fail
      go_meet
      case rel => exact ⟨((o : Int) + 1), 0, 0, ⟨#[]⟩, ⟨#[65]⟩, m, d, (by decide), (by decide), (by omega), (by omega), rfl⟩
    · subst hu
      go_wp2_with fail
      go_meet
      case rel => exact ⟨((o : Int) + 1), 0, 0, ⟨#[]⟩, c, ⟨#[]⟩, ⟨#[]⟩, (by decide), (by omega), (by decide), (by decide), rfl⟩
  case rest =>
    obtain ⟨go, gn, gk, gs, gc, gm, gd, g1, g2, g3, g4, hwc⟩ := hcut
    subst hwc
    have hI1 := ibox_at w1 ((o : Int) + 1) 0 0 ⟨#[]⟩ ⟨#[]⟩ ⟨#[]⟩ ⟨#[]⟩
    have hI2 := ibox_next hI1 (by simp) ((Below.refl _ _).alloc (Nat.le_refl _) (.cells #[Value.int .i64 ((o : Int) + 1), Value.int .i32 n, Value.int .i64 kk, Value.string m, Value.string c, Value.string m, Value.string d] 29))
    have hF2 := ibox_at (w1.alloc (.cells #[Value.int .i64 ((o : Int) + 1), Value.int .i32 0, Value.int .i64 0, Value.string ⟨#[]⟩, Value.string ⟨#[]⟩, Value.string ⟨#[]⟩, Value.string ⟨#[]⟩] 29)) ((o : Int) + 1) n kk m c m d
    rw [show (w1.alloc (.cells #[Value.int .i64 ((o : Int) + 1), Value.int .i32 0, Value.int .i64 0, Value.string ⟨#[]⟩, Value.string ⟨#[]⟩, Value.string ⟨#[]⟩, Value.string ⟨#[]⟩] 29)).heap.size = w1.heap.size + 1 by simp] at hF2
    have hR2 := ibox_next (ibox_next hr1 (by omega) ((Below.refl _ _).alloc (Nat.le_refl _) (.cells #[Value.int .i64 ((o : Int) + 1), Value.int .i32 0, Value.int .i64 0, Value.string ⟨#[]⟩, Value.string ⟨#[]⟩, Value.string ⟨#[]⟩, Value.string ⟨#[]⟩] 29))) (by simp; omega) ((Below.refl _ _).alloc (Nat.le_refl _) (.cells #[Value.int .i64 ((o : Int) + 1), Value.int .i32 n, Value.int .i64 kk, Value.string m, Value.string c, Value.string m, Value.string d] 29))
    have hB2 : Below w.heap.size w ((w1.alloc (.cells #[Value.int .i64 ((o : Int) + 1), Value.int .i32 0, Value.int .i64 0, Value.string ⟨#[]⟩, Value.string ⟨#[]⟩, Value.string ⟨#[]⟩, Value.string ⟨#[]⟩] 29)).alloc (.cells #[Value.int .i64 ((o : Int) + 1), Value.int .i32 n, Value.int .i64 kk, Value.string m, Value.string c, Value.string m, Value.string d] 29)) := (hB1.alloc hB1.size _).alloc (by have := hB1.size; simp; omega) _
    rw [hW2] at hI2 hF2 hR2 hB2
    clear hI1 hW2 hr1 hB1
    go_upto_block 3 with fail
    obtain ⟨W3, hW3⟩ : ∃ W, W2.alloc (.cells #[Value.int .i64 go, Value.int .i32 gn, Value.int .i64 gk, Value.string gs, Value.string gc, Value.string gm, Value.string gd] 29) = W := ⟨_, rfl⟩
    have hX3 : W2.heap.size + 1 = W3.heap.size := by rw [← hW3]; simp
    rw [hW3, hX3]
    have hbW : Below W2.heap.size W2 W3 := by rw [← hW3]; exact (Below.refl _ _).alloc (Nat.le_refl _) _
    have hI3 := ibox_next hI2 (by omega) hbW
    have hF3 := ibox_next hF2 (by omega) hbW
    have hR3 := ibox_next hR2 (by omega) hbW
    have hG3 := ibox_at W2 go gn gk gs gc gm gd
    have hB3 := hB2.trans (hbW.mono hB2.size)
    rw [hW3] at hG3
    clear hI2 hF2 hR2 hB2 hbW
    have HI := Lib.hid hI3
    have HF := Lib.hid hF3
    have HR := Lib.hid hR3
    have HG3 := Lib.hid hG3
    clear hI3 hF3 hR3 hG3
    go_cut [] (fun wx => ∃ (bo bn bk : Int) (bs bc bm bd : ByteArray), bs.size ≤ 1011 ∧ bc.size ≤ 301 ∧ bm.size ≤ 301 ∧ bd.size ≤ 300 ∧ wx = W3.alloc (.cells #[Value.int .i64 bo, Value.int .i32 bn, Value.int .i64 bk, Value.string bs, Value.string bc, Value.string bm, Value.string bd] 29))
    case first =>
      clear HI HF HR HG3 hB3 hW3 hX3
      have s1 : ¬ 9223372036854775807 < gs.size + 1 := by omega
      have s2 : ¬ 9223372036854775807 < gm.size + 1 := by omega
      have s3 : ¬ 9223372036854775807 < gc.size + 1 := by omega
      rcases hq with hq | hq | hq | hq | hq
      · go_wp2_with fail
        go_meet
        case rel => refine ⟨_, _, _, _, _, _, _, ?_, ?_, ?_, ?_, rfl⟩ <;> (try rw [ByteArray.size_append]) <;> first | omega | (show _ + 1 ≤ _; omega)
      · go_wp2_with fail
        go_meet
        case rel => refine ⟨_, _, _, _, _, _, _, ?_, ?_, ?_, ?_, rfl⟩ <;> (try rw [ByteArray.size_append]) <;> first | omega | (show _ + 1 ≤ _; omega)
      · go_wp2_with fail
        go_meet
        case rel => refine ⟨_, _, _, _, _, _, _, ?_, ?_, ?_, ?_, rfl⟩ <;> (try rw [ByteArray.size_append]) <;> first | omega | (show _ + 1 ≤ _; omega)
      · go_wp2_with fail
        go_meet
        case rel => refine ⟨_, _, _, _, _, _, _, ?_, ?_, ?_, ?_, rfl⟩ <;> (try rw [ByteArray.size_append]) <;> first | omega | (show _ + 1 ≤ _; omega)
      · go_wp2_with fail
        go_meet
        case rel => refine ⟨_, _, _, _, _, _, _, ?_, ?_, ?_, ?_, rfl⟩ <;> (try rw [ByteArray.size_append]) <;> first | omega | (show _ + 1 ≤ _; omega)
    case rest =>
      obtain ⟨bo, bn, bk, bs, bc, bm, bd, b1, b2, b3, b4, hwc⟩ := hcut
      subst hwc
      obtain ⟨W4, hW4⟩ : ∃ W, W3.alloc (.cells #[Value.int .i64 bo, Value.int .i32 bn, Value.int .i64 bk, Value.string bs, Value.string bc, Value.string bm, Value.string bd] 29) = W := ⟨_, rfl⟩
      have hX4 : W3.heap.size + 1 = W4.heap.size := by rw [← hW4]; simp
      have hbW : Below W3.heap.size W3 W4 := by rw [← hW4]; exact (Below.refl _ _).alloc (Nat.le_refl _) _
      have hI4 := ibox_next HI.out (by omega) hbW
      have hF4 := ibox_next HF.out (by omega) hbW
      have hR4 := ibox_next HR.out (by omega) hbW
      have hG4 := ibox_next HG3.out (by omega) hbW
      have hD4 := ibox_at W3 bo bn bk bs bc bm bd
      have hB4 := hB3.trans (hbW.mono hB3.size)
      rw [hW4] at hD4 ⊢
      clear HI HF HR HG3 hB3 hbW hW3 hW4 ho hL hkk hq
      go_wp2_with fail
      have hc : ∀ j, j < 5 → (W4.alloc (.cells #[Value.int .i64 o0, Value.int .i32 n0, Value.int .i64 k0, Value.string s0, Value.string c0, Value.string m0, Value.string d0, Value.int .i64 ((o : Int) + 1), Value.int .i32 0, Value.int .i64 0, Value.string ⟨#[]⟩, Value.string ⟨#[]⟩, Value.string ⟨#[]⟩, Value.string ⟨#[]⟩, Value.int .i64 ((o : Int) + 1), Value.int .i32 n, Value.int .i64 kk, Value.string m, Value.string c, Value.string m, Value.string d, Value.int .i64 go, Value.int .i32 gn, Value.int .i64 gk, Value.string gs, Value.string gc, Value.string gm, Value.string gd, Value.int .i64 bo, Value.int .i32 bn, Value.int .i64 bk, Value.string bs, Value.string bc, Value.string bm, Value.string bd] 29)).cell? ⟨W4.heap.size, j * 7, none⟩ = some (Value.int .i64 (fiveI (o0, n0, k0, s0, c0, m0, d0) (((o : Int) + 1), 0, 0, ⟨#[]⟩, ⟨#[]⟩, ⟨#[]⟩, ⟨#[]⟩) (((o : Int) + 1), n, kk, m, c, m, d) (go, gn, gk, gs, gc, gm, gd) (bo, bn, bk, bs, bc, bm, bd) j).1) ∧ (W4.alloc (.cells #[Value.int .i64 o0, Value.int .i32 n0, Value.int .i64 k0, Value.string s0, Value.string c0, Value.string m0, Value.string d0, Value.int .i64 ((o : Int) + 1), Value.int .i32 0, Value.int .i64 0, Value.string ⟨#[]⟩, Value.string ⟨#[]⟩, Value.string ⟨#[]⟩, Value.string ⟨#[]⟩, Value.int .i64 ((o : Int) + 1), Value.int .i32 n, Value.int .i64 kk, Value.string m, Value.string c, Value.string m, Value.string d, Value.int .i64 go, Value.int .i32 gn, Value.int .i64 gk, Value.string gs, Value.string gc, Value.string gm, Value.string gd, Value.int .i64 bo, Value.int .i32 bn, Value.int .i64 bk, Value.string bs, Value.string bc, Value.string bm, Value.string bd] 29)).cell? ⟨W4.heap.size, j * 7 + 1, none⟩ = some (Value.int .i32 (fiveI (o0, n0, k0, s0, c0, m0, d0) (((o : Int) + 1), 0, 0, ⟨#[]⟩, ⟨#[]⟩, ⟨#[]⟩, ⟨#[]⟩) (((o : Int) + 1), n, kk, m, c, m, d) (go, gn, gk, gs, gc, gm, gd) (bo, bn, bk, bs, bc, bm, bd) j).2.1) ∧ (W4.alloc (.cells #[Value.int .i64 o0, Value.int .i32 n0, Value.int .i64 k0, Value.string s0, Value.string c0, Value.string m0, Value.string d0, Value.int .i64 ((o : Int) + 1), Value.int .i32 0, Value.int .i64 0, Value.string ⟨#[]⟩, Value.string ⟨#[]⟩, Value.string ⟨#[]⟩, Value.string ⟨#[]⟩, Value.int .i64 ((o : Int) + 1), Value.int .i32 n, Value.int .i64 kk, Value.string m, Value.string c, Value.string m, Value.string d, Value.int .i64 go, Value.int .i32 gn, Value.int .i64 gk, Value.string gs, Value.string gc, Value.string gm, Value.string gd, Value.int .i64 bo, Value.int .i32 bn, Value.int .i64 bk, Value.string bs, Value.string bc, Value.string bm, Value.string bd] 29)).cell? ⟨W4.heap.size, j * 7 + 2, none⟩ = some (Value.int .i64 (fiveI (o0, n0, k0, s0, c0, m0, d0) (((o : Int) + 1), 0, 0, ⟨#[]⟩, ⟨#[]⟩, ⟨#[]⟩, ⟨#[]⟩) (((o : Int) + 1), n, kk, m, c, m, d) (go, gn, gk, gs, gc, gm, gd) (bo, bn, bk, bs, bc, bm, bd) j).2.2.1) ∧ (W4.alloc (.cells #[Value.int .i64 o0, Value.int .i32 n0, Value.int .i64 k0, Value.string s0, Value.string c0, Value.string m0, Value.string d0, Value.int .i64 ((o : Int) + 1), Value.int .i32 0, Value.int .i64 0, Value.string ⟨#[]⟩, Value.string ⟨#[]⟩, Value.string ⟨#[]⟩, Value.string ⟨#[]⟩, Value.int .i64 ((o : Int) + 1), Value.int .i32 n, Value.int .i64 kk, Value.string m, Value.string c, Value.string m, Value.string d, Value.int .i64 go, Value.int .i32 gn, Value.int .i64 gk, Value.string gs, Value.string gc, Value.string gm, Value.string gd, Value.int .i64 bo, Value.int .i32 bn, Value.int .i64 bk, Value.string bs, Value.string bc, Value.string bm, Value.string bd] 29)).cell? ⟨W4.heap.size, j * 7 + 3, none⟩ = some (Value.string (fiveI (o0, n0, k0, s0, c0, m0, d0) (((o : Int) + 1), 0, 0, ⟨#[]⟩, ⟨#[]⟩, ⟨#[]⟩, ⟨#[]⟩) (((o : Int) + 1), n, kk, m, c, m, d) (go, gn, gk, gs, gc, gm, gd) (bo, bn, bk, bs, bc, bm, bd) j).2.2.2.1) ∧ (W4.alloc (.cells #[Value.int .i64 o0, Value.int .i32 n0, Value.int .i64 k0, Value.string s0, Value.string c0, Value.string m0, Value.string d0, Value.int .i64 ((o : Int) + 1), Value.int .i32 0, Value.int .i64 0, Value.string ⟨#[]⟩, Value.string ⟨#[]⟩, Value.string ⟨#[]⟩, Value.string ⟨#[]⟩, Value.int .i64 ((o : Int) + 1), Value.int .i32 n, Value.int .i64 kk, Value.string m, Value.string c, Value.string m, Value.string d, Value.int .i64 go, Value.int .i32 gn, Value.int .i64 gk, Value.string gs, Value.string gc, Value.string gm, Value.string gd, Value.int .i64 bo, Value.int .i32 bn, Value.int .i64 bk, Value.string bs, Value.string bc, Value.string bm, Value.string bd] 29)).cell? ⟨W4.heap.size, j * 7 + 4, none⟩ = some (Value.string (fiveI (o0, n0, k0, s0, c0, m0, d0) (((o : Int) + 1), 0, 0, ⟨#[]⟩, ⟨#[]⟩, ⟨#[]⟩, ⟨#[]⟩) (((o : Int) + 1), n, kk, m, c, m, d) (go, gn, gk, gs, gc, gm, gd) (bo, bn, bk, bs, bc, bm, bd) j).2.2.2.2.1) ∧ (W4.alloc (.cells #[Value.int .i64 o0, Value.int .i32 n0, Value.int .i64 k0, Value.string s0, Value.string c0, Value.string m0, Value.string d0, Value.int .i64 ((o : Int) + 1), Value.int .i32 0, Value.int .i64 0, Value.string ⟨#[]⟩, Value.string ⟨#[]⟩, Value.string ⟨#[]⟩, Value.string ⟨#[]⟩, Value.int .i64 ((o : Int) + 1), Value.int .i32 n, Value.int .i64 kk, Value.string m, Value.string c, Value.string m, Value.string d, Value.int .i64 go, Value.int .i32 gn, Value.int .i64 gk, Value.string gs, Value.string gc, Value.string gm, Value.string gd, Value.int .i64 bo, Value.int .i32 bn, Value.int .i64 bk, Value.string bs, Value.string bc, Value.string bm, Value.string bd] 29)).cell? ⟨W4.heap.size, j * 7 + 5, none⟩ = some (Value.string (fiveI (o0, n0, k0, s0, c0, m0, d0) (((o : Int) + 1), 0, 0, ⟨#[]⟩, ⟨#[]⟩, ⟨#[]⟩, ⟨#[]⟩) (((o : Int) + 1), n, kk, m, c, m, d) (go, gn, gk, gs, gc, gm, gd) (bo, bn, bk, bs, bc, bm, bd) j).2.2.2.2.2.1) ∧ (W4.alloc (.cells #[Value.int .i64 o0, Value.int .i32 n0, Value.int .i64 k0, Value.string s0, Value.string c0, Value.string m0, Value.string d0, Value.int .i64 ((o : Int) + 1), Value.int .i32 0, Value.int .i64 0, Value.string ⟨#[]⟩, Value.string ⟨#[]⟩, Value.string ⟨#[]⟩, Value.string ⟨#[]⟩, Value.int .i64 ((o : Int) + 1), Value.int .i32 n, Value.int .i64 kk, Value.string m, Value.string c, Value.string m, Value.string d, Value.int .i64 go, Value.int .i32 gn, Value.int .i64 gk, Value.string gs, Value.string gc, Value.string gm, Value.string gd, Value.int .i64 bo, Value.int .i32 bn, Value.int .i64 bk, Value.string bs, Value.string bc, Value.string bm, Value.string bd] 29)).cell? ⟨W4.heap.size, j * 7 + 6, none⟩ = some (Value.string (fiveI (o0, n0, k0, s0, c0, m0, d0) (((o : Int) + 1), 0, 0, ⟨#[]⟩, ⟨#[]⟩, ⟨#[]⟩, ⟨#[]⟩) (((o : Int) + 1), n, kk, m, c, m, d) (go, gn, gk, gs, gc, gm, gd) (bo, bn, bk, bs, bc, bm, bd) j).2.2.2.2.2.2) := five_ins W4 (o0, n0, k0, s0, c0, m0, d0) (((o : Int) + 1), 0, 0, ⟨#[]⟩, ⟨#[]⟩, ⟨#[]⟩, ⟨#[]⟩) (((o : Int) + 1), n, kk, m, c, m, d) (go, gn, gk, gs, gc, gm, gd) (bo, bn, bk, bs, bc, bm, bd)
      obtain ⟨xx, hxx⟩ : ∃ xx, fiveI (o0, n0, k0, s0, c0, m0, d0) (((o : Int) + 1), 0, 0, ⟨#[]⟩, ⟨#[]⟩, ⟨#[]⟩, ⟨#[]⟩) (((o : Int) + 1), n, kk, m, c, m, d) (go, gn, gk, gs, gc, gm, gd) (bo, bn, bk, bs, bc, bm, bd) = xx := ⟨_, rfl⟩
      have hsm : ∀ j, small (xx j) := fun j => by
        rw [← hxx]
        exact five_all ⟨by show s0.size ≤ _; omega, by show c0.size ≤ _; omega, by show m0.size ≤ _; omega, by show d0.size ≤ _; omega⟩ ⟨by show (⟨#[]⟩ : ByteArray).size ≤ _; decide, by show (⟨#[]⟩ : ByteArray).size ≤ _; decide, by show (⟨#[]⟩ : ByteArray).size ≤ _; decide, by show (⟨#[]⟩ : ByteArray).size ≤ _; decide⟩ ⟨by show m.size ≤ _; omega, by show c.size ≤ _; omega, by show m.size ≤ _; omega, by show d.size ≤ _; omega⟩ ⟨by show gs.size ≤ _; omega, by show gc.size ≤ _; omega, by show gm.size ≤ _; omega, by show gd.size ≤ _; omega⟩ ⟨by show bs.size ≤ _; omega, by show bc.size ≤ _; omega, by show bm.size ≤ _; omega, by show bd.size ≤ _; omega⟩ j
      obtain ⟨WA, hWA⟩ : ∃ W, W4.alloc (.cells #[Value.int .i64 o0, Value.int .i32 n0, Value.int .i64 k0, Value.string s0, Value.string c0, Value.string m0, Value.string d0, Value.int .i64 ((o : Int) + 1), Value.int .i32 0, Value.int .i64 0, Value.string ⟨#[]⟩, Value.string ⟨#[]⟩, Value.string ⟨#[]⟩, Value.string ⟨#[]⟩, Value.int .i64 ((o : Int) + 1), Value.int .i32 n, Value.int .i64 kk, Value.string m, Value.string c, Value.string m, Value.string d, Value.int .i64 go, Value.int .i32 gn, Value.int .i64 gk, Value.string gs, Value.string gc, Value.string gm, Value.string gd, Value.int .i64 bo, Value.int .i32 bn, Value.int .i64 bk, Value.string bs, Value.string bc, Value.string bm, Value.string bd] 29) = W := ⟨_, rfl⟩
      have hbW : Below W4.heap.size W4 WA := by rw [← hWA]; exact (Below.refl _ _).alloc (Nat.le_refl _) _
      have hsA : WA.heap.size = W4.heap.size + 1 := by rw [← hWA]; simp
      have hGA := ibox_next hG4 (by omega) hbW
      have hBA := hB4.trans (hbW.mono hB4.size)
      rw [hWA] at hc ⊢
      rw [hxx] at hc
      have hgl : W2.heap.size < WA.heap.size := by omega
      obtain ⟨SB, hSB⟩ : ∃ SB, W4.heap.size = SB := ⟨_, rfl⟩
      rw [hSB] at hc ⊢
      have hsb : SB < WA.heap.size := by omega
      have HC := Lib.hid hc
      have HS := Lib.hid hsm
      have HGA := Lib.hid hGA
      clear hxx hWA hbW hI4 hF4 hR4 hG4 hD4 hB4 hc hsm hGA hsA hSB hX hX3 hX4 hs1 h1 h2 g1 g2 g3 g4 b1 b2 b3 b4 ho1 hL1
      go_loopw [152] (fun i wr => ∃ j : Nat, j ≤ 5 ∧ i = .int .i64 j ∧ Below WA.heap.size WA wr) (fun i _ => 5 - (intOf i).toNat)
      case atStart => exact ⟨0, by omega, rfl, Below.refl _ _⟩
      case round =>
        obtain ⟨j, hj, rfl, hbl⟩ := hrel
        by_cases hlt : j < 5
        · have hrow := row_next (HC.out j hlt) hsb hbl
          have hsx := HS.out j
          have hG := ibox_next HGA.out hgl hbl
          generalize xx j = x at hrow hsx
          obtain ⟨xo, xn, xk, xs, xc, xm, xd⟩ := x
          try simp only at hrow
          obtain ⟨hx1, hx2, hx3, hx4⟩ := hsx
          try simp only at hx1 hx2 hx3 hx4
          have hsr := hbl.size
          have hrowx := hsb
          have hBr := hBA.trans (hbl.mono hBA.size)
          have hm2 : xc.size ≤ maxLen := by unfold maxLen; omega
          have hm3 : xm.size ≤ maxLen := by unfold maxLen; omega
          have hm1 : xs.size ≤ maxLen := by unfold maxLen; omega
          have hm4 : xd.size ≤ 4294967280 := by omega
          clear hx1 hx2 hx3 hx4 hrowx
          by_cases e0 : go = xo
          · subst e0
            by_cases e1 : gn = xn
            · subst e1
              by_cases e2 : gk = xk
              · subst e2
                by_cases e3 : gs = xs
                · subst e3
                  by_cases e4 : gc = xc
                  · subst e4
                    by_cases e5 : gm = xm
                    · subst e5
                      by_cases e6 : gd = xd
                      · subst e6
                        have HSM : Hid (∀ v : World, Calls Tryd.prog 20 #[.agg #[Value.int .i64 go, Value.int .i32 gn, Value.int .i64 gk, Value.string gs, Value.string gc, Value.string gm, Value.string gd], .agg #[Value.int .i64 go, Value.int .i32 gn, Value.int .i64 gk, Value.string gs, Value.string gc, Value.string gm, Value.string gd]] v fun e v' => e = .returned (.bool true) ∧ Below v.heap.size v v') := Lib.hid (fun v => by
                          have := samev_any go gn gk go gn gk gs gc gm gd gs gc gm gd v
                          rw [decide_eq_true rfl] at this
                          exact this)
                        have hx0 := ibox_new wr go gn gk gs gc gm gd _ rfl
                        have hb0 : Below wr.heap.size wr ((wr.alloc (.cells #[Value.int .i64 go, Value.int .i32 gn, Value.int .i64 gk, Value.string gs, Value.string gc, Value.string gm, Value.string gd] 29)).drew) := ((Below.refl _ _).alloc (Nat.le_refl _) _).drew
                        have hX0 : wr.heap.size < ((wr.alloc (.cells #[Value.int .i64 go, Value.int .i32 gn, Value.int .i64 gk, Value.string gs, Value.string gc, Value.string gm, Value.string gd] 29)).drew).heap.size := by simp
                        have hY0 : W2.heap.size < ((wr.alloc (.cells #[Value.int .i64 go, Value.int .i32 gn, Value.int .i64 gk, Value.string gs, Value.string gc, Value.string gm, Value.string gd] 29)).drew).heap.size := by simp; omega
                        have hg0 := ibox_next hG (by omega) hb0
                        have hB0 := hbl.trans (hb0.mono hsr)
                        have hW0 := hBr.trans (hb0.mono hBr.size)
                        clear hb0 hG hbl hBr
                        go_wp2_with fail
                        refine wp_region_held_drew (S := (fun w' => (w'.cell? ⟨wr.heap.size, 0, none⟩ = some (Value.int .i64 go) ∧ w'.cell? ⟨wr.heap.size, 1, none⟩ = some (Value.int .i32 gn) ∧ w'.cell? ⟨wr.heap.size, 2, none⟩ = some (Value.int .i64 gk) ∧ w'.cell? ⟨wr.heap.size, 3, none⟩ = some (Value.string gs) ∧ w'.cell? ⟨wr.heap.size, 4, none⟩ = some (Value.string gc) ∧ w'.cell? ⟨wr.heap.size, 5, none⟩ = some (Value.string gm) ∧ w'.cell? ⟨wr.heap.size, 6, none⟩ = some (Value.string gd)) ∧ (w'.cell? ⟨W2.heap.size, 0, none⟩ = some (Value.int .i64 go) ∧ w'.cell? ⟨W2.heap.size, 1, none⟩ = some (Value.int .i32 gn) ∧ w'.cell? ⟨W2.heap.size, 2, none⟩ = some (Value.int .i64 gk) ∧ w'.cell? ⟨W2.heap.size, 3, none⟩ = some (Value.string gs) ∧ w'.cell? ⟨W2.heap.size, 4, none⟩ = some (Value.string gc) ∧ w'.cell? ⟨W2.heap.size, 5, none⟩ = some (Value.string gm) ∧ w'.cell? ⟨W2.heap.size, 6, none⟩ = some (Value.string gd)))) (by kernel_rfl) ⟨hx0, hg0⟩ (fun hHeld => ?_)
                        refine wpAnyH_take (i := 0) (oi := _) (v := ?_) (by rfl) (by kernel_rfl) (by kernel_rfl) (by kernel_rfl) (by intro _ _ _ h; exact h) (Or.inl ⟨by rfl, fun W hSw => ?_⟩) hHeld ?_
                        rotate_left 1
                        · (try dsimp only at hSw); first | (go_simp; done) | (go_simp; with_reducible rfl)
                        try go_frame
                        refine wpAnyH_take (i := 2) (oi := _) (v := ?_) (by simp only [List.getElem?_toArray, List.getElem?_cons_succ, List.getElem?_cons_zero]; rfl) (by kernel_rfl) (by kernel_rfl) (by kernel_rfl) (by intro _ _ _ h; exact h) (Or.inl ⟨by rfl, fun W hSw => ?_⟩) hHeld ?_
                        rotate_left 1
                        · (try dsimp only at hSw); first | (go_simp; done) | (go_simp; with_reducible rfl)
                        try go_frame
                        refine wpAnyH_ready (rs := [1]) (by kernel_rfl) (by simp) ?_
                        refine AllReadyH.cons (o := _) (by simp only [List.getElem?_toArray, List.getElem?_cons_succ, List.getElem?_cons_zero]; rfl) (fun K hK => ?_) AllReadyH.nil
                        clear hHeld
                        go_simp
                        refine (rightv_any _ _ _ _ _ _ _ _ (hg.below hW0 (Nat.le_refl _)) hm2 hm3 hm4).mono ?_
                        rintro e v1 ⟨rfl, hb1⟩
                        have hB1 := hB0.trans (hb1.mono hB0.size)
                        have hW1 := hW0.trans (hb1.mono hW0.size)
                        have hx1 := ibox_next hx0 hX0 hb1
                        have hg1 := ibox_next hg0 hY0 hb1
                        have hX1 := Nat.lt_of_lt_of_le hX0 hb1.size
                        have hY1 := Nat.lt_of_lt_of_le hY0 hb1.size
                        clear hx0 hg0 hX0 hY0 hb1
                        refine hK.out _ _ ⟨hx1, hg1⟩ (fun hHeld => ?_)
                        clear hK K
                        try go_frame
                        refine wpAnyH_ready (rs := [3]) (by kernel_rfl) (by simp) ?_
                        refine AllReadyH.cons (o := _) (by simp only [List.getElem?_toArray, List.getElem?_cons_succ, List.getElem?_cons_zero]; rfl) (fun K hK => ?_) AllReadyH.nil
                        clear hHeld
                        go_simp
                        refine (rrightv_any _ _ _ _ _ _ _ _ (hg.below hW1 (Nat.le_refl _)) hm2 hm3 hm4 hm1).mono ?_
                        rintro e v2 ⟨rfl, hb2⟩
                        have hB2 := hB1.trans (hb2.mono hB1.size)
                        have hW2 := hW1.trans (hb2.mono hW1.size)
                        have hx2 := ibox_next hx1 hX1 hb2
                        have hg2 := ibox_next hg1 hY1 hb2
                        have hX2 := Nat.lt_of_lt_of_le hX1 hb2.size
                        have hY2 := Nat.lt_of_lt_of_le hY1 hb2.size
                        clear hx1 hg1 hX1 hY1 hb2
                        refine hK.out _ _ ⟨hx2, hg2⟩ (fun hHeld => ?_)
                        clear hK K
                        try go_frame
                        refine wpAnyH_take (i := 4) (oi := _) (v := ?_) (by simp only [List.getElem?_toArray, List.getElem?_cons_succ, List.getElem?_cons_zero]; rfl) (by kernel_rfl) (by kernel_rfl) (by kernel_rfl) (by intro _ _ _ h; exact h) (Or.inl ⟨by rfl, fun W hSw => ?_⟩) hHeld ?_
                        rotate_left 1
                        · (clear hSw; first | (go_simp; done) | (go_simp; with_reducible rfl))
                        try go_frame
                        refine wpAnyH_take (i := 5) (oi := _) (v := ?_) (by simp only [List.getElem?_toArray, List.getElem?_cons_succ, List.getElem?_cons_zero]; rfl) (by kernel_rfl) (by kernel_rfl) (by kernel_rfl) (by intro _ _ _ h; exact h) (Or.inl ⟨by rfl, fun W hSw => ?_⟩) hHeld ?_
                        rotate_left 1
                        · (clear hSw; first | (go_simp; done) | (go_simp; with_reducible rfl))
                        try go_frame
                        refine wpAnyH_take (i := 6) (oi := _) (v := ?_) (by simp only [List.getElem?_toArray, List.getElem?_cons_succ, List.getElem?_cons_zero]; rfl) (by kernel_rfl) (by kernel_rfl) (by kernel_rfl) (by intro _ _ _ h; exact h) (Or.inl ⟨by rfl, fun W hSw => ?_⟩) hHeld ?_
                        rotate_left 1
                        · (try dsimp only at hSw); first | (go_simp; done) | (go_simp; with_reducible rfl)
                        try go_frame
                        refine wpAnyH_take (i := 7) (oi := _) (v := ?_) (by simp only [List.getElem?_toArray, List.getElem?_cons_succ, List.getElem?_cons_zero]; rfl) (by kernel_rfl) (by kernel_rfl) (by kernel_rfl) (by intro _ _ _ h; exact h) (Or.inl ⟨by rfl, fun W hSw => ?_⟩) hHeld ?_
                        rotate_left 1
                        · (try dsimp only at hSw); first | (go_simp; done) | (go_simp; with_reducible rfl)
                        try go_frame
                        refine wpAnyH_take (i := 9) (oi := _) (v := ?_) (by simp only [List.getElem?_toArray, List.getElem?_cons_succ, List.getElem?_cons_zero]; rfl) (by kernel_rfl) (by kernel_rfl) (by kernel_rfl) (by intro _ _ _ h; exact h) (Or.inl ⟨by rfl, fun W hSw => ?_⟩) hHeld ?_
                        rotate_left 1
                        · (try dsimp only at hSw); first | (go_simp; done) | (go_simp; with_reducible rfl)
                        try go_frame
                        refine wpAnyH_take (i := 10) (oi := _) (v := ?_) (by simp only [List.getElem?_toArray, List.getElem?_cons_succ, List.getElem?_cons_zero]; rfl) (by kernel_rfl) (by kernel_rfl) (by kernel_rfl) (by intro _ _ _ h; exact h) (Or.inl ⟨by rfl, fun W hSw => ?_⟩) hHeld ?_
                        rotate_left 1
                        · (try dsimp only at hSw); first | (go_simp; done) | (go_simp; with_reducible rfl)
                        try go_frame
                        refine wpAnyH_take (i := 11) (oi := _) (v := ?_) (by simp only [List.getElem?_toArray, List.getElem?_cons_succ, List.getElem?_cons_zero]; rfl) (by kernel_rfl) (by kernel_rfl) (by kernel_rfl) (by intro _ _ _ h; exact h) (Or.inl ⟨by rfl, fun W hSw => ?_⟩) hHeld ?_
                        rotate_left 1
                        · (clear hSw; first | (go_simp; done) | (go_simp; with_reducible rfl))
                        try go_frame
                        refine wpAnyH_ready (rs := [8]) (by kernel_rfl) (by simp) ?_
                        refine AllReadyH.cons (o := _) (by simp only [List.getElem?_toArray, List.getElem?_cons_succ, List.getElem?_cons_zero]; rfl) (fun K hK => ?_) AllReadyH.nil
                        clear hHeld
                        go_simp
                        refine (HSM.out _).mono ?_
                        rintro e v3 ⟨rfl, hb3⟩
                        have hB3 := hB2.trans (hb3.mono hB2.size)
                        have hW3 := hW2.trans (hb3.mono hW2.size)
                        have hx3 := ibox_next hx2 hX2 hb3
                        have hg3 := ibox_next hg2 hY2 hb3
                        have hX3 := Nat.lt_of_lt_of_le hX2 hb3.size
                        have hY3 := Nat.lt_of_lt_of_le hY2 hb3.size
                        clear hx2 hg2 hX2 hY2 hb3
                        refine hK.out _ _ ⟨hx3, hg3⟩ (fun hHeld => ?_)
                        clear hK K
                        try go_frame
                        refine wpAnyH_take (i := 12) (oi := _) (v := ?_) (by simp only [List.getElem?_toArray, List.getElem?_cons_succ, List.getElem?_cons_zero]; rfl) (by kernel_rfl) (by kernel_rfl) (by kernel_rfl) (by intro _ _ _ h; exact h) (Or.inl ⟨by rfl, fun W hSw => ?_⟩) hHeld ?_
                        rotate_left 1
                        · (clear hSw; first | (go_simp; done) | (go_simp; with_reducible rfl))
                        try go_frame
                        refine wpAnyH_take (i := 13) (oi := _) (v := ?_) (by simp only [List.getElem?_toArray, List.getElem?_cons_succ, List.getElem?_cons_zero]; rfl) (by kernel_rfl) (by kernel_rfl) (by kernel_rfl) (by intro _ _ _ h; exact h) (Or.inl ⟨by rfl, fun W hSw => ?_⟩) hHeld ?_
                        rotate_left 1
                        · (clear hSw; first | (go_simp; done) | (go_simp; with_reducible rfl))
                        try go_frame
                        refine wpAnyH_done (by kernel_rfl) ?_ _
                        go_wp2_with fail
                        go_roundw
                        case rel => exact ⟨j + 1, by omega, by go_num, hB3⟩
                        case measure => simp [intOf]; omega
                      · have hne : ¬ xd = gd := fun h => e6 h.symm
                        have f1 : ¬ xd.toList = gd.toList := fun h => hne (str_ext h)
                        have f3 : (xd.toList == gd.toList) = false := by rw [beq_eq_false_iff_ne]; exact f1
                        have HSM : Hid (∀ v : World, Calls Tryd.prog 20 #[.agg #[Value.int .i64 go, Value.int .i32 gn, Value.int .i64 gk, Value.string gs, Value.string gc, Value.string gm, Value.string xd], .agg #[Value.int .i64 go, Value.int .i32 gn, Value.int .i64 gk, Value.string gs, Value.string gc, Value.string gm, Value.string gd]] v fun e v' => e = .returned (.bool false) ∧ Below v.heap.size v v') := Lib.hid (fun v => by
                          have := samev_any go gn gk go gn gk gs gc gm xd gs gc gm gd v
                          rw [decide_eq_false (by intro e; simp only [Prod.mk.injEq] at e; exact hne (by simp_all))] at this
                          exact this)
                        have hx0 := ibox_new wr go gn gk gs gc gm xd _ rfl
                        have hb0 : Below wr.heap.size wr ((wr.alloc (.cells #[Value.int .i64 go, Value.int .i32 gn, Value.int .i64 gk, Value.string gs, Value.string gc, Value.string gm, Value.string xd] 29)).drew) := ((Below.refl _ _).alloc (Nat.le_refl _) _).drew
                        have hX0 : wr.heap.size < ((wr.alloc (.cells #[Value.int .i64 go, Value.int .i32 gn, Value.int .i64 gk, Value.string gs, Value.string gc, Value.string gm, Value.string xd] 29)).drew).heap.size := by simp
                        have hY0 : W2.heap.size < ((wr.alloc (.cells #[Value.int .i64 go, Value.int .i32 gn, Value.int .i64 gk, Value.string gs, Value.string gc, Value.string gm, Value.string xd] 29)).drew).heap.size := by simp; omega
                        have hg0 := ibox_next hG (by omega) hb0
                        have hB0 := hbl.trans (hb0.mono hsr)
                        have hW0 := hBr.trans (hb0.mono hBr.size)
                        clear hb0 hG hbl hBr
                        go_wp2_with fail
                        refine wp_region_held_drew (S := (fun w' => (w'.cell? ⟨wr.heap.size, 0, none⟩ = some (Value.int .i64 go) ∧ w'.cell? ⟨wr.heap.size, 1, none⟩ = some (Value.int .i32 gn) ∧ w'.cell? ⟨wr.heap.size, 2, none⟩ = some (Value.int .i64 gk) ∧ w'.cell? ⟨wr.heap.size, 3, none⟩ = some (Value.string gs) ∧ w'.cell? ⟨wr.heap.size, 4, none⟩ = some (Value.string gc) ∧ w'.cell? ⟨wr.heap.size, 5, none⟩ = some (Value.string gm) ∧ w'.cell? ⟨wr.heap.size, 6, none⟩ = some (Value.string xd)) ∧ (w'.cell? ⟨W2.heap.size, 0, none⟩ = some (Value.int .i64 go) ∧ w'.cell? ⟨W2.heap.size, 1, none⟩ = some (Value.int .i32 gn) ∧ w'.cell? ⟨W2.heap.size, 2, none⟩ = some (Value.int .i64 gk) ∧ w'.cell? ⟨W2.heap.size, 3, none⟩ = some (Value.string gs) ∧ w'.cell? ⟨W2.heap.size, 4, none⟩ = some (Value.string gc) ∧ w'.cell? ⟨W2.heap.size, 5, none⟩ = some (Value.string gm) ∧ w'.cell? ⟨W2.heap.size, 6, none⟩ = some (Value.string gd)))) (by kernel_rfl) ⟨hx0, hg0⟩ (fun hHeld => ?_)
                        refine wpAnyH_take (i := 0) (oi := _) (v := ?_) (by rfl) (by kernel_rfl) (by kernel_rfl) (by kernel_rfl) (by intro _ _ _ h; exact h) (Or.inl ⟨by rfl, fun W hSw => ?_⟩) hHeld ?_
                        rotate_left 1
                        · (try dsimp only at hSw); first | (go_simp; done) | (go_simp; with_reducible rfl)
                        try go_frame
                        refine wpAnyH_take (i := 2) (oi := _) (v := ?_) (by simp only [List.getElem?_toArray, List.getElem?_cons_succ, List.getElem?_cons_zero]; rfl) (by kernel_rfl) (by kernel_rfl) (by kernel_rfl) (by intro _ _ _ h; exact h) (Or.inl ⟨by rfl, fun W hSw => ?_⟩) hHeld ?_
                        rotate_left 1
                        · (try dsimp only at hSw); first | (go_simp; done) | (go_simp; with_reducible rfl)
                        try go_frame
                        refine wpAnyH_ready (rs := [1]) (by kernel_rfl) (by simp) ?_
                        refine AllReadyH.cons (o := _) (by simp only [List.getElem?_toArray, List.getElem?_cons_succ, List.getElem?_cons_zero]; rfl) (fun K hK => ?_) AllReadyH.nil
                        clear hHeld
                        go_simp
                        refine (rightv_any _ _ _ _ _ _ _ _ (hg.below hW0 (Nat.le_refl _)) hm2 hm3 hm4).mono ?_
                        rintro e v1 ⟨rfl, hb1⟩
                        have hB1 := hB0.trans (hb1.mono hB0.size)
                        have hW1 := hW0.trans (hb1.mono hW0.size)
                        have hx1 := ibox_next hx0 hX0 hb1
                        have hg1 := ibox_next hg0 hY0 hb1
                        have hX1 := Nat.lt_of_lt_of_le hX0 hb1.size
                        have hY1 := Nat.lt_of_lt_of_le hY0 hb1.size
                        clear hx0 hg0 hX0 hY0 hb1
                        refine hK.out _ _ ⟨hx1, hg1⟩ (fun hHeld => ?_)
                        clear hK K
                        try go_frame
                        refine wpAnyH_ready (rs := [3]) (by kernel_rfl) (by simp) ?_
                        refine AllReadyH.cons (o := _) (by simp only [List.getElem?_toArray, List.getElem?_cons_succ, List.getElem?_cons_zero]; rfl) (fun K hK => ?_) AllReadyH.nil
                        clear hHeld
                        go_simp
                        refine (rrightv_any _ _ _ _ _ _ _ _ (hg.below hW1 (Nat.le_refl _)) hm2 hm3 hm4 hm1).mono ?_
                        rintro e v2 ⟨rfl, hb2⟩
                        have hB2 := hB1.trans (hb2.mono hB1.size)
                        have hW2 := hW1.trans (hb2.mono hW1.size)
                        have hx2 := ibox_next hx1 hX1 hb2
                        have hg2 := ibox_next hg1 hY1 hb2
                        have hX2 := Nat.lt_of_lt_of_le hX1 hb2.size
                        have hY2 := Nat.lt_of_lt_of_le hY1 hb2.size
                        clear hx1 hg1 hX1 hY1 hb2
                        refine hK.out _ _ ⟨hx2, hg2⟩ (fun hHeld => ?_)
                        clear hK K
                        try go_frame
                        refine wpAnyH_take (i := 4) (oi := _) (v := ?_) (by simp only [List.getElem?_toArray, List.getElem?_cons_succ, List.getElem?_cons_zero]; rfl) (by kernel_rfl) (by kernel_rfl) (by kernel_rfl) (by intro _ _ _ h; exact h) (Or.inl ⟨by rfl, fun W hSw => ?_⟩) hHeld ?_
                        rotate_left 1
                        · (clear hSw; first | (go_simp; done) | (go_simp; with_reducible rfl))
                        try go_frame
                        refine wpAnyH_take (i := 5) (oi := _) (v := ?_) (by simp only [List.getElem?_toArray, List.getElem?_cons_succ, List.getElem?_cons_zero]; rfl) (by kernel_rfl) (by kernel_rfl) (by kernel_rfl) (by intro _ _ _ h; exact h) (Or.inl ⟨by rfl, fun W hSw => ?_⟩) hHeld ?_
                        rotate_left 1
                        · (clear hSw; first | (go_simp; done) | (go_simp; with_reducible rfl))
                        try go_frame
                        refine wpAnyH_take (i := 6) (oi := _) (v := ?_) (by simp only [List.getElem?_toArray, List.getElem?_cons_succ, List.getElem?_cons_zero]; rfl) (by kernel_rfl) (by kernel_rfl) (by kernel_rfl) (by intro _ _ _ h; exact h) (Or.inl ⟨by rfl, fun W hSw => ?_⟩) hHeld ?_
                        rotate_left 1
                        · (try dsimp only at hSw); first | (go_simp; done) | (go_simp; with_reducible rfl)
                        try go_frame
                        refine wpAnyH_take (i := 7) (oi := _) (v := ?_) (by simp only [List.getElem?_toArray, List.getElem?_cons_succ, List.getElem?_cons_zero]; rfl) (by kernel_rfl) (by kernel_rfl) (by kernel_rfl) (by intro _ _ _ h; exact h) (Or.inl ⟨by rfl, fun W hSw => ?_⟩) hHeld ?_
                        rotate_left 1
                        · (try dsimp only at hSw); first | (go_simp; done) | (go_simp; with_reducible rfl)
                        try go_frame
                        refine wpAnyH_take (i := 9) (oi := _) (v := ?_) (by simp only [List.getElem?_toArray, List.getElem?_cons_succ, List.getElem?_cons_zero]; rfl) (by kernel_rfl) (by kernel_rfl) (by kernel_rfl) (by intro _ _ _ h; exact h) (Or.inl ⟨by rfl, fun W hSw => ?_⟩) hHeld ?_
                        rotate_left 1
                        · (try dsimp only at hSw); first | (go_simp; done) | (go_simp; with_reducible rfl)
                        try go_frame
                        refine wpAnyH_take (i := 10) (oi := _) (v := ?_) (by simp only [List.getElem?_toArray, List.getElem?_cons_succ, List.getElem?_cons_zero]; rfl) (by kernel_rfl) (by kernel_rfl) (by kernel_rfl) (by intro _ _ _ h; exact h) (Or.inl ⟨by rfl, fun W hSw => ?_⟩) hHeld ?_
                        rotate_left 1
                        · (try dsimp only at hSw); first | (go_simp; done) | (go_simp; with_reducible rfl)
                        try go_frame
                        refine wpAnyH_take (i := 11) (oi := _) (v := ?_) (by simp only [List.getElem?_toArray, List.getElem?_cons_succ, List.getElem?_cons_zero]; rfl) (by kernel_rfl) (by kernel_rfl) (by kernel_rfl) (by intro _ _ _ h; exact h) (Or.inl ⟨by rfl, fun W hSw => ?_⟩) hHeld ?_
                        rotate_left 1
                        · (clear hSw; first | (go_simp; done) | (go_simp; with_reducible rfl))
                        try go_frame
                        refine wpAnyH_ready (rs := [8]) (by kernel_rfl) (by simp) ?_
                        refine AllReadyH.cons (o := _) (by simp only [List.getElem?_toArray, List.getElem?_cons_succ, List.getElem?_cons_zero]; rfl) (fun K hK => ?_) AllReadyH.nil
                        clear hHeld
                        go_simp
                        refine (HSM.out _).mono ?_
                        rintro e v3 ⟨rfl, hb3⟩
                        have hB3 := hB2.trans (hb3.mono hB2.size)
                        have hW3 := hW2.trans (hb3.mono hW2.size)
                        have hx3 := ibox_next hx2 hX2 hb3
                        have hg3 := ibox_next hg2 hY2 hb3
                        have hX3 := Nat.lt_of_lt_of_le hX2 hb3.size
                        have hY3 := Nat.lt_of_lt_of_le hY2 hb3.size
                        clear hx2 hg2 hX2 hY2 hb3
                        refine hK.out _ _ ⟨hx3, hg3⟩ (fun hHeld => ?_)
                        clear hK K
                        try go_frame
                        refine wpAnyH_take (i := 12) (oi := _) (v := ?_) (by simp only [List.getElem?_toArray, List.getElem?_cons_succ, List.getElem?_cons_zero]; rfl) (by kernel_rfl) (by kernel_rfl) (by kernel_rfl) (by intro _ _ _ h; exact h) (Or.inl ⟨by rfl, fun W hSw => ?_⟩) hHeld ?_
                        rotate_left 1
                        · (clear hSw; first | (go_simp; done) | (go_simp; with_reducible rfl))
                        try go_frame
                        refine wpAnyH_take (i := 13) (oi := _) (v := ?_) (by simp only [List.getElem?_toArray, List.getElem?_cons_succ, List.getElem?_cons_zero]; rfl) (by kernel_rfl) (by kernel_rfl) (by kernel_rfl) (by intro _ _ _ h; exact h) (Or.inl ⟨by rfl, fun W hSw => ?_⟩) hHeld ?_
                        rotate_left 1
                        · (clear hSw; first | (go_simp; done) | (go_simp; with_reducible rfl))
                        try go_frame
                        refine wpAnyH_done (by kernel_rfl) ?_ _
                        go_wp2_with fail
                        go_roundw
                        case rel => exact ⟨j + 1, by omega, by go_num, hB3⟩
                        case measure => simp [intOf]; omega
                    · have hne : ¬ xm = gm := fun h => e5 h.symm
                      have f1 : ¬ xm.toList = gm.toList := fun h => hne (str_ext h)
                      have f3 : (xm.toList == gm.toList) = false := by rw [beq_eq_false_iff_ne]; exact f1
                      have HSM : Hid (∀ v : World, Calls Tryd.prog 20 #[.agg #[Value.int .i64 go, Value.int .i32 gn, Value.int .i64 gk, Value.string gs, Value.string gc, Value.string xm, Value.string xd], .agg #[Value.int .i64 go, Value.int .i32 gn, Value.int .i64 gk, Value.string gs, Value.string gc, Value.string gm, Value.string gd]] v fun e v' => e = .returned (.bool false) ∧ Below v.heap.size v v') := Lib.hid (fun v => by
                        have := samev_any go gn gk go gn gk gs gc xm xd gs gc gm gd v
                        rw [decide_eq_false (by intro e; simp only [Prod.mk.injEq] at e; exact hne (by simp_all))] at this
                        exact this)
                      have hx0 := ibox_new wr go gn gk gs gc xm xd _ rfl
                      have hb0 : Below wr.heap.size wr ((wr.alloc (.cells #[Value.int .i64 go, Value.int .i32 gn, Value.int .i64 gk, Value.string gs, Value.string gc, Value.string xm, Value.string xd] 29)).drew) := ((Below.refl _ _).alloc (Nat.le_refl _) _).drew
                      have hX0 : wr.heap.size < ((wr.alloc (.cells #[Value.int .i64 go, Value.int .i32 gn, Value.int .i64 gk, Value.string gs, Value.string gc, Value.string xm, Value.string xd] 29)).drew).heap.size := by simp
                      have hY0 : W2.heap.size < ((wr.alloc (.cells #[Value.int .i64 go, Value.int .i32 gn, Value.int .i64 gk, Value.string gs, Value.string gc, Value.string xm, Value.string xd] 29)).drew).heap.size := by simp; omega
                      have hg0 := ibox_next hG (by omega) hb0
                      have hB0 := hbl.trans (hb0.mono hsr)
                      have hW0 := hBr.trans (hb0.mono hBr.size)
                      clear hb0 hG hbl hBr
                      go_wp2_with fail
                      refine wp_region_held_drew (S := (fun w' => (w'.cell? ⟨wr.heap.size, 0, none⟩ = some (Value.int .i64 go) ∧ w'.cell? ⟨wr.heap.size, 1, none⟩ = some (Value.int .i32 gn) ∧ w'.cell? ⟨wr.heap.size, 2, none⟩ = some (Value.int .i64 gk) ∧ w'.cell? ⟨wr.heap.size, 3, none⟩ = some (Value.string gs) ∧ w'.cell? ⟨wr.heap.size, 4, none⟩ = some (Value.string gc) ∧ w'.cell? ⟨wr.heap.size, 5, none⟩ = some (Value.string xm) ∧ w'.cell? ⟨wr.heap.size, 6, none⟩ = some (Value.string xd)) ∧ (w'.cell? ⟨W2.heap.size, 0, none⟩ = some (Value.int .i64 go) ∧ w'.cell? ⟨W2.heap.size, 1, none⟩ = some (Value.int .i32 gn) ∧ w'.cell? ⟨W2.heap.size, 2, none⟩ = some (Value.int .i64 gk) ∧ w'.cell? ⟨W2.heap.size, 3, none⟩ = some (Value.string gs) ∧ w'.cell? ⟨W2.heap.size, 4, none⟩ = some (Value.string gc) ∧ w'.cell? ⟨W2.heap.size, 5, none⟩ = some (Value.string gm) ∧ w'.cell? ⟨W2.heap.size, 6, none⟩ = some (Value.string gd)))) (by kernel_rfl) ⟨hx0, hg0⟩ (fun hHeld => ?_)
                      refine wpAnyH_take (i := 0) (oi := _) (v := ?_) (by rfl) (by kernel_rfl) (by kernel_rfl) (by kernel_rfl) (by intro _ _ _ h; exact h) (Or.inl ⟨by rfl, fun W hSw => ?_⟩) hHeld ?_
                      rotate_left 1
                      · (try dsimp only at hSw); first | (go_simp; done) | (go_simp; with_reducible rfl)
                      try go_frame
                      refine wpAnyH_take (i := 2) (oi := _) (v := ?_) (by simp only [List.getElem?_toArray, List.getElem?_cons_succ, List.getElem?_cons_zero]; rfl) (by kernel_rfl) (by kernel_rfl) (by kernel_rfl) (by intro _ _ _ h; exact h) (Or.inl ⟨by rfl, fun W hSw => ?_⟩) hHeld ?_
                      rotate_left 1
                      · (try dsimp only at hSw); first | (go_simp; done) | (go_simp; with_reducible rfl)
                      try go_frame
                      refine wpAnyH_ready (rs := [1]) (by kernel_rfl) (by simp) ?_
                      refine AllReadyH.cons (o := _) (by simp only [List.getElem?_toArray, List.getElem?_cons_succ, List.getElem?_cons_zero]; rfl) (fun K hK => ?_) AllReadyH.nil
                      clear hHeld
                      go_simp
                      refine (rightv_any _ _ _ _ _ _ _ _ (hg.below hW0 (Nat.le_refl _)) hm2 hm3 hm4).mono ?_
                      rintro e v1 ⟨rfl, hb1⟩
                      have hB1 := hB0.trans (hb1.mono hB0.size)
                      have hW1 := hW0.trans (hb1.mono hW0.size)
                      have hx1 := ibox_next hx0 hX0 hb1
                      have hg1 := ibox_next hg0 hY0 hb1
                      have hX1 := Nat.lt_of_lt_of_le hX0 hb1.size
                      have hY1 := Nat.lt_of_lt_of_le hY0 hb1.size
                      clear hx0 hg0 hX0 hY0 hb1
                      refine hK.out _ _ ⟨hx1, hg1⟩ (fun hHeld => ?_)
                      clear hK K
                      try go_frame
                      refine wpAnyH_ready (rs := [3]) (by kernel_rfl) (by simp) ?_
                      refine AllReadyH.cons (o := _) (by simp only [List.getElem?_toArray, List.getElem?_cons_succ, List.getElem?_cons_zero]; rfl) (fun K hK => ?_) AllReadyH.nil
                      clear hHeld
                      go_simp
                      refine (rrightv_any _ _ _ _ _ _ _ _ (hg.below hW1 (Nat.le_refl _)) hm2 hm3 hm4 hm1).mono ?_
                      rintro e v2 ⟨rfl, hb2⟩
                      have hB2 := hB1.trans (hb2.mono hB1.size)
                      have hW2 := hW1.trans (hb2.mono hW1.size)
                      have hx2 := ibox_next hx1 hX1 hb2
                      have hg2 := ibox_next hg1 hY1 hb2
                      have hX2 := Nat.lt_of_lt_of_le hX1 hb2.size
                      have hY2 := Nat.lt_of_lt_of_le hY1 hb2.size
                      clear hx1 hg1 hX1 hY1 hb2
                      refine hK.out _ _ ⟨hx2, hg2⟩ (fun hHeld => ?_)
                      clear hK K
                      try go_frame
                      refine wpAnyH_take (i := 4) (oi := _) (v := ?_) (by simp only [List.getElem?_toArray, List.getElem?_cons_succ, List.getElem?_cons_zero]; rfl) (by kernel_rfl) (by kernel_rfl) (by kernel_rfl) (by intro _ _ _ h; exact h) (Or.inl ⟨by rfl, fun W hSw => ?_⟩) hHeld ?_
                      rotate_left 1
                      · (clear hSw; first | (go_simp; done) | (go_simp; with_reducible rfl))
                      try go_frame
                      refine wpAnyH_take (i := 5) (oi := _) (v := ?_) (by simp only [List.getElem?_toArray, List.getElem?_cons_succ, List.getElem?_cons_zero]; rfl) (by kernel_rfl) (by kernel_rfl) (by kernel_rfl) (by intro _ _ _ h; exact h) (Or.inl ⟨by rfl, fun W hSw => ?_⟩) hHeld ?_
                      rotate_left 1
                      · (clear hSw; first | (go_simp; done) | (go_simp; with_reducible rfl))
                      try go_frame
                      refine wpAnyH_take (i := 6) (oi := _) (v := ?_) (by simp only [List.getElem?_toArray, List.getElem?_cons_succ, List.getElem?_cons_zero]; rfl) (by kernel_rfl) (by kernel_rfl) (by kernel_rfl) (by intro _ _ _ h; exact h) (Or.inl ⟨by rfl, fun W hSw => ?_⟩) hHeld ?_
                      rotate_left 1
                      · (try dsimp only at hSw); first | (go_simp; done) | (go_simp; with_reducible rfl)
                      try go_frame
                      refine wpAnyH_take (i := 7) (oi := _) (v := ?_) (by simp only [List.getElem?_toArray, List.getElem?_cons_succ, List.getElem?_cons_zero]; rfl) (by kernel_rfl) (by kernel_rfl) (by kernel_rfl) (by intro _ _ _ h; exact h) (Or.inl ⟨by rfl, fun W hSw => ?_⟩) hHeld ?_
                      rotate_left 1
                      · (try dsimp only at hSw); first | (go_simp; done) | (go_simp; with_reducible rfl)
                      try go_frame
                      refine wpAnyH_take (i := 9) (oi := _) (v := ?_) (by simp only [List.getElem?_toArray, List.getElem?_cons_succ, List.getElem?_cons_zero]; rfl) (by kernel_rfl) (by kernel_rfl) (by kernel_rfl) (by intro _ _ _ h; exact h) (Or.inl ⟨by rfl, fun W hSw => ?_⟩) hHeld ?_
                      rotate_left 1
                      · (try dsimp only at hSw); first | (go_simp; done) | (go_simp; with_reducible rfl)
                      try go_frame
                      refine wpAnyH_take (i := 10) (oi := _) (v := ?_) (by simp only [List.getElem?_toArray, List.getElem?_cons_succ, List.getElem?_cons_zero]; rfl) (by kernel_rfl) (by kernel_rfl) (by kernel_rfl) (by intro _ _ _ h; exact h) (Or.inl ⟨by rfl, fun W hSw => ?_⟩) hHeld ?_
                      rotate_left 1
                      · (try dsimp only at hSw); first | (go_simp; done) | (go_simp; with_reducible rfl)
                      try go_frame
                      refine wpAnyH_take (i := 11) (oi := _) (v := ?_) (by simp only [List.getElem?_toArray, List.getElem?_cons_succ, List.getElem?_cons_zero]; rfl) (by kernel_rfl) (by kernel_rfl) (by kernel_rfl) (by intro _ _ _ h; exact h) (Or.inl ⟨by rfl, fun W hSw => ?_⟩) hHeld ?_
                      rotate_left 1
                      · (clear hSw; first | (go_simp; done) | (go_simp; with_reducible rfl))
                      try go_frame
                      refine wpAnyH_ready (rs := [8]) (by kernel_rfl) (by simp) ?_
                      refine AllReadyH.cons (o := _) (by simp only [List.getElem?_toArray, List.getElem?_cons_succ, List.getElem?_cons_zero]; rfl) (fun K hK => ?_) AllReadyH.nil
                      clear hHeld
                      go_simp
                      refine (HSM.out _).mono ?_
                      rintro e v3 ⟨rfl, hb3⟩
                      have hB3 := hB2.trans (hb3.mono hB2.size)
                      have hW3 := hW2.trans (hb3.mono hW2.size)
                      have hx3 := ibox_next hx2 hX2 hb3
                      have hg3 := ibox_next hg2 hY2 hb3
                      have hX3 := Nat.lt_of_lt_of_le hX2 hb3.size
                      have hY3 := Nat.lt_of_lt_of_le hY2 hb3.size
                      clear hx2 hg2 hX2 hY2 hb3
                      refine hK.out _ _ ⟨hx3, hg3⟩ (fun hHeld => ?_)
                      clear hK K
                      try go_frame
                      refine wpAnyH_take (i := 12) (oi := _) (v := ?_) (by simp only [List.getElem?_toArray, List.getElem?_cons_succ, List.getElem?_cons_zero]; rfl) (by kernel_rfl) (by kernel_rfl) (by kernel_rfl) (by intro _ _ _ h; exact h) (Or.inl ⟨by rfl, fun W hSw => ?_⟩) hHeld ?_
                      rotate_left 1
                      · (clear hSw; first | (go_simp; done) | (go_simp; with_reducible rfl))
                      try go_frame
                      refine wpAnyH_take (i := 13) (oi := _) (v := ?_) (by simp only [List.getElem?_toArray, List.getElem?_cons_succ, List.getElem?_cons_zero]; rfl) (by kernel_rfl) (by kernel_rfl) (by kernel_rfl) (by intro _ _ _ h; exact h) (Or.inl ⟨by rfl, fun W hSw => ?_⟩) hHeld ?_
                      rotate_left 1
                      · (clear hSw; first | (go_simp; done) | (go_simp; with_reducible rfl))
                      try go_frame
                      refine wpAnyH_done (by kernel_rfl) ?_ _
                      go_wp2_with fail
                      go_roundw
                      case rel => exact ⟨j + 1, by omega, by go_num, hB3⟩
                      case measure => simp [intOf]; omega
                  · have hne : ¬ xc = gc := fun h => e4 h.symm
                    have f1 : ¬ xc.toList = gc.toList := fun h => hne (str_ext h)
                    have f3 : (xc.toList == gc.toList) = false := by rw [beq_eq_false_iff_ne]; exact f1
                    have HSM : Hid (∀ v : World, Calls Tryd.prog 20 #[.agg #[Value.int .i64 go, Value.int .i32 gn, Value.int .i64 gk, Value.string gs, Value.string xc, Value.string xm, Value.string xd], .agg #[Value.int .i64 go, Value.int .i32 gn, Value.int .i64 gk, Value.string gs, Value.string gc, Value.string gm, Value.string gd]] v fun e v' => e = .returned (.bool false) ∧ Below v.heap.size v v') := Lib.hid (fun v => by
                      have := samev_any go gn gk go gn gk gs xc xm xd gs gc gm gd v
                      rw [decide_eq_false (by intro e; simp only [Prod.mk.injEq] at e; exact hne (by simp_all))] at this
                      exact this)
                    have hx0 := ibox_new wr go gn gk gs xc xm xd _ rfl
                    have hb0 : Below wr.heap.size wr ((wr.alloc (.cells #[Value.int .i64 go, Value.int .i32 gn, Value.int .i64 gk, Value.string gs, Value.string xc, Value.string xm, Value.string xd] 29)).drew) := ((Below.refl _ _).alloc (Nat.le_refl _) _).drew
                    have hX0 : wr.heap.size < ((wr.alloc (.cells #[Value.int .i64 go, Value.int .i32 gn, Value.int .i64 gk, Value.string gs, Value.string xc, Value.string xm, Value.string xd] 29)).drew).heap.size := by simp
                    have hY0 : W2.heap.size < ((wr.alloc (.cells #[Value.int .i64 go, Value.int .i32 gn, Value.int .i64 gk, Value.string gs, Value.string xc, Value.string xm, Value.string xd] 29)).drew).heap.size := by simp; omega
                    have hg0 := ibox_next hG (by omega) hb0
                    have hB0 := hbl.trans (hb0.mono hsr)
                    have hW0 := hBr.trans (hb0.mono hBr.size)
                    clear hb0 hG hbl hBr
                    go_wp2_with fail
                    refine wp_region_held_drew (S := (fun w' => (w'.cell? ⟨wr.heap.size, 0, none⟩ = some (Value.int .i64 go) ∧ w'.cell? ⟨wr.heap.size, 1, none⟩ = some (Value.int .i32 gn) ∧ w'.cell? ⟨wr.heap.size, 2, none⟩ = some (Value.int .i64 gk) ∧ w'.cell? ⟨wr.heap.size, 3, none⟩ = some (Value.string gs) ∧ w'.cell? ⟨wr.heap.size, 4, none⟩ = some (Value.string xc) ∧ w'.cell? ⟨wr.heap.size, 5, none⟩ = some (Value.string xm) ∧ w'.cell? ⟨wr.heap.size, 6, none⟩ = some (Value.string xd)) ∧ (w'.cell? ⟨W2.heap.size, 0, none⟩ = some (Value.int .i64 go) ∧ w'.cell? ⟨W2.heap.size, 1, none⟩ = some (Value.int .i32 gn) ∧ w'.cell? ⟨W2.heap.size, 2, none⟩ = some (Value.int .i64 gk) ∧ w'.cell? ⟨W2.heap.size, 3, none⟩ = some (Value.string gs) ∧ w'.cell? ⟨W2.heap.size, 4, none⟩ = some (Value.string gc) ∧ w'.cell? ⟨W2.heap.size, 5, none⟩ = some (Value.string gm) ∧ w'.cell? ⟨W2.heap.size, 6, none⟩ = some (Value.string gd)))) (by kernel_rfl) ⟨hx0, hg0⟩ (fun hHeld => ?_)
                    refine wpAnyH_take (i := 0) (oi := _) (v := ?_) (by rfl) (by kernel_rfl) (by kernel_rfl) (by kernel_rfl) (by intro _ _ _ h; exact h) (Or.inl ⟨by rfl, fun W hSw => ?_⟩) hHeld ?_
                    rotate_left 1
                    · (try dsimp only at hSw); first | (go_simp; done) | (go_simp; with_reducible rfl)
                    try go_frame
                    refine wpAnyH_take (i := 2) (oi := _) (v := ?_) (by simp only [List.getElem?_toArray, List.getElem?_cons_succ, List.getElem?_cons_zero]; rfl) (by kernel_rfl) (by kernel_rfl) (by kernel_rfl) (by intro _ _ _ h; exact h) (Or.inl ⟨by rfl, fun W hSw => ?_⟩) hHeld ?_
                    rotate_left 1
                    · (try dsimp only at hSw); first | (go_simp; done) | (go_simp; with_reducible rfl)
                    try go_frame
                    refine wpAnyH_ready (rs := [1]) (by kernel_rfl) (by simp) ?_
                    refine AllReadyH.cons (o := _) (by simp only [List.getElem?_toArray, List.getElem?_cons_succ, List.getElem?_cons_zero]; rfl) (fun K hK => ?_) AllReadyH.nil
                    clear hHeld
                    go_simp
                    refine (rightv_any _ _ _ _ _ _ _ _ (hg.below hW0 (Nat.le_refl _)) hm2 hm3 hm4).mono ?_
                    rintro e v1 ⟨rfl, hb1⟩
                    have hB1 := hB0.trans (hb1.mono hB0.size)
                    have hW1 := hW0.trans (hb1.mono hW0.size)
                    have hx1 := ibox_next hx0 hX0 hb1
                    have hg1 := ibox_next hg0 hY0 hb1
                    have hX1 := Nat.lt_of_lt_of_le hX0 hb1.size
                    have hY1 := Nat.lt_of_lt_of_le hY0 hb1.size
                    clear hx0 hg0 hX0 hY0 hb1
                    refine hK.out _ _ ⟨hx1, hg1⟩ (fun hHeld => ?_)
                    clear hK K
                    try go_frame
                    refine wpAnyH_ready (rs := [3]) (by kernel_rfl) (by simp) ?_
                    refine AllReadyH.cons (o := _) (by simp only [List.getElem?_toArray, List.getElem?_cons_succ, List.getElem?_cons_zero]; rfl) (fun K hK => ?_) AllReadyH.nil
                    clear hHeld
                    go_simp
                    refine (rrightv_any _ _ _ _ _ _ _ _ (hg.below hW1 (Nat.le_refl _)) hm2 hm3 hm4 hm1).mono ?_
                    rintro e v2 ⟨rfl, hb2⟩
                    have hB2 := hB1.trans (hb2.mono hB1.size)
                    have hW2 := hW1.trans (hb2.mono hW1.size)
                    have hx2 := ibox_next hx1 hX1 hb2
                    have hg2 := ibox_next hg1 hY1 hb2
                    have hX2 := Nat.lt_of_lt_of_le hX1 hb2.size
                    have hY2 := Nat.lt_of_lt_of_le hY1 hb2.size
                    clear hx1 hg1 hX1 hY1 hb2
                    refine hK.out _ _ ⟨hx2, hg2⟩ (fun hHeld => ?_)
                    clear hK K
                    try go_frame
                    refine wpAnyH_take (i := 4) (oi := _) (v := ?_) (by simp only [List.getElem?_toArray, List.getElem?_cons_succ, List.getElem?_cons_zero]; rfl) (by kernel_rfl) (by kernel_rfl) (by kernel_rfl) (by intro _ _ _ h; exact h) (Or.inl ⟨by rfl, fun W hSw => ?_⟩) hHeld ?_
                    rotate_left 1
                    · (clear hSw; first | (go_simp; done) | (go_simp; with_reducible rfl))
                    try go_frame
                    refine wpAnyH_take (i := 5) (oi := _) (v := ?_) (by simp only [List.getElem?_toArray, List.getElem?_cons_succ, List.getElem?_cons_zero]; rfl) (by kernel_rfl) (by kernel_rfl) (by kernel_rfl) (by intro _ _ _ h; exact h) (Or.inl ⟨by rfl, fun W hSw => ?_⟩) hHeld ?_
                    rotate_left 1
                    · (clear hSw; first | (go_simp; done) | (go_simp; with_reducible rfl))
                    try go_frame
                    refine wpAnyH_take (i := 6) (oi := _) (v := ?_) (by simp only [List.getElem?_toArray, List.getElem?_cons_succ, List.getElem?_cons_zero]; rfl) (by kernel_rfl) (by kernel_rfl) (by kernel_rfl) (by intro _ _ _ h; exact h) (Or.inl ⟨by rfl, fun W hSw => ?_⟩) hHeld ?_
                    rotate_left 1
                    · (try dsimp only at hSw); first | (go_simp; done) | (go_simp; with_reducible rfl)
                    try go_frame
                    refine wpAnyH_take (i := 7) (oi := _) (v := ?_) (by simp only [List.getElem?_toArray, List.getElem?_cons_succ, List.getElem?_cons_zero]; rfl) (by kernel_rfl) (by kernel_rfl) (by kernel_rfl) (by intro _ _ _ h; exact h) (Or.inl ⟨by rfl, fun W hSw => ?_⟩) hHeld ?_
                    rotate_left 1
                    · (try dsimp only at hSw); first | (go_simp; done) | (go_simp; with_reducible rfl)
                    try go_frame
                    refine wpAnyH_take (i := 9) (oi := _) (v := ?_) (by simp only [List.getElem?_toArray, List.getElem?_cons_succ, List.getElem?_cons_zero]; rfl) (by kernel_rfl) (by kernel_rfl) (by kernel_rfl) (by intro _ _ _ h; exact h) (Or.inl ⟨by rfl, fun W hSw => ?_⟩) hHeld ?_
                    rotate_left 1
                    · (try dsimp only at hSw); first | (go_simp; done) | (go_simp; with_reducible rfl)
                    try go_frame
                    refine wpAnyH_take (i := 10) (oi := _) (v := ?_) (by simp only [List.getElem?_toArray, List.getElem?_cons_succ, List.getElem?_cons_zero]; rfl) (by kernel_rfl) (by kernel_rfl) (by kernel_rfl) (by intro _ _ _ h; exact h) (Or.inl ⟨by rfl, fun W hSw => ?_⟩) hHeld ?_
                    rotate_left 1
                    · (try dsimp only at hSw); first | (go_simp; done) | (go_simp; with_reducible rfl)
                    try go_frame
                    refine wpAnyH_take (i := 11) (oi := _) (v := ?_) (by simp only [List.getElem?_toArray, List.getElem?_cons_succ, List.getElem?_cons_zero]; rfl) (by kernel_rfl) (by kernel_rfl) (by kernel_rfl) (by intro _ _ _ h; exact h) (Or.inl ⟨by rfl, fun W hSw => ?_⟩) hHeld ?_
                    rotate_left 1
                    · (clear hSw; first | (go_simp; done) | (go_simp; with_reducible rfl))
                    try go_frame
                    refine wpAnyH_ready (rs := [8]) (by kernel_rfl) (by simp) ?_
                    refine AllReadyH.cons (o := _) (by simp only [List.getElem?_toArray, List.getElem?_cons_succ, List.getElem?_cons_zero]; rfl) (fun K hK => ?_) AllReadyH.nil
                    clear hHeld
                    go_simp
                    refine (HSM.out _).mono ?_
                    rintro e v3 ⟨rfl, hb3⟩
                    have hB3 := hB2.trans (hb3.mono hB2.size)
                    have hW3 := hW2.trans (hb3.mono hW2.size)
                    have hx3 := ibox_next hx2 hX2 hb3
                    have hg3 := ibox_next hg2 hY2 hb3
                    have hX3 := Nat.lt_of_lt_of_le hX2 hb3.size
                    have hY3 := Nat.lt_of_lt_of_le hY2 hb3.size
                    clear hx2 hg2 hX2 hY2 hb3
                    refine hK.out _ _ ⟨hx3, hg3⟩ (fun hHeld => ?_)
                    clear hK K
                    try go_frame
                    refine wpAnyH_take (i := 12) (oi := _) (v := ?_) (by simp only [List.getElem?_toArray, List.getElem?_cons_succ, List.getElem?_cons_zero]; rfl) (by kernel_rfl) (by kernel_rfl) (by kernel_rfl) (by intro _ _ _ h; exact h) (Or.inl ⟨by rfl, fun W hSw => ?_⟩) hHeld ?_
                    rotate_left 1
                    · (clear hSw; first | (go_simp; done) | (go_simp; with_reducible rfl))
                    try go_frame
                    refine wpAnyH_take (i := 13) (oi := _) (v := ?_) (by simp only [List.getElem?_toArray, List.getElem?_cons_succ, List.getElem?_cons_zero]; rfl) (by kernel_rfl) (by kernel_rfl) (by kernel_rfl) (by intro _ _ _ h; exact h) (Or.inl ⟨by rfl, fun W hSw => ?_⟩) hHeld ?_
                    rotate_left 1
                    · (clear hSw; first | (go_simp; done) | (go_simp; with_reducible rfl))
                    try go_frame
                    refine wpAnyH_done (by kernel_rfl) ?_ _
                    go_wp2_with fail
                    go_roundw
                    case rel => exact ⟨j + 1, by omega, by go_num, hB3⟩
                    case measure => simp [intOf]; omega
                · have hne : ¬ xs = gs := fun h => e3 h.symm
                  have f1 : ¬ xs.toList = gs.toList := fun h => hne (str_ext h)
                  have f3 : (xs.toList == gs.toList) = false := by rw [beq_eq_false_iff_ne]; exact f1
                  have HSM : Hid (∀ v : World, Calls Tryd.prog 20 #[.agg #[Value.int .i64 go, Value.int .i32 gn, Value.int .i64 gk, Value.string xs, Value.string xc, Value.string xm, Value.string xd], .agg #[Value.int .i64 go, Value.int .i32 gn, Value.int .i64 gk, Value.string gs, Value.string gc, Value.string gm, Value.string gd]] v fun e v' => e = .returned (.bool false) ∧ Below v.heap.size v v') := Lib.hid (fun v => by
                    have := samev_any go gn gk go gn gk xs xc xm xd gs gc gm gd v
                    rw [decide_eq_false (by intro e; simp only [Prod.mk.injEq] at e; exact hne (by simp_all))] at this
                    exact this)
                  have hx0 := ibox_new wr go gn gk xs xc xm xd _ rfl
                  have hb0 : Below wr.heap.size wr ((wr.alloc (.cells #[Value.int .i64 go, Value.int .i32 gn, Value.int .i64 gk, Value.string xs, Value.string xc, Value.string xm, Value.string xd] 29)).drew) := ((Below.refl _ _).alloc (Nat.le_refl _) _).drew
                  have hX0 : wr.heap.size < ((wr.alloc (.cells #[Value.int .i64 go, Value.int .i32 gn, Value.int .i64 gk, Value.string xs, Value.string xc, Value.string xm, Value.string xd] 29)).drew).heap.size := by simp
                  have hY0 : W2.heap.size < ((wr.alloc (.cells #[Value.int .i64 go, Value.int .i32 gn, Value.int .i64 gk, Value.string xs, Value.string xc, Value.string xm, Value.string xd] 29)).drew).heap.size := by simp; omega
                  have hg0 := ibox_next hG (by omega) hb0
                  have hB0 := hbl.trans (hb0.mono hsr)
                  have hW0 := hBr.trans (hb0.mono hBr.size)
                  clear hb0 hG hbl hBr
                  go_wp2_with fail
                  refine wp_region_held_drew (S := (fun w' => (w'.cell? ⟨wr.heap.size, 0, none⟩ = some (Value.int .i64 go) ∧ w'.cell? ⟨wr.heap.size, 1, none⟩ = some (Value.int .i32 gn) ∧ w'.cell? ⟨wr.heap.size, 2, none⟩ = some (Value.int .i64 gk) ∧ w'.cell? ⟨wr.heap.size, 3, none⟩ = some (Value.string xs) ∧ w'.cell? ⟨wr.heap.size, 4, none⟩ = some (Value.string xc) ∧ w'.cell? ⟨wr.heap.size, 5, none⟩ = some (Value.string xm) ∧ w'.cell? ⟨wr.heap.size, 6, none⟩ = some (Value.string xd)) ∧ (w'.cell? ⟨W2.heap.size, 0, none⟩ = some (Value.int .i64 go) ∧ w'.cell? ⟨W2.heap.size, 1, none⟩ = some (Value.int .i32 gn) ∧ w'.cell? ⟨W2.heap.size, 2, none⟩ = some (Value.int .i64 gk) ∧ w'.cell? ⟨W2.heap.size, 3, none⟩ = some (Value.string gs) ∧ w'.cell? ⟨W2.heap.size, 4, none⟩ = some (Value.string gc) ∧ w'.cell? ⟨W2.heap.size, 5, none⟩ = some (Value.string gm) ∧ w'.cell? ⟨W2.heap.size, 6, none⟩ = some (Value.string gd)))) (by kernel_rfl) ⟨hx0, hg0⟩ (fun hHeld => ?_)
                  refine wpAnyH_take (i := 0) (oi := _) (v := ?_) (by rfl) (by kernel_rfl) (by kernel_rfl) (by kernel_rfl) (by intro _ _ _ h; exact h) (Or.inl ⟨by rfl, fun W hSw => ?_⟩) hHeld ?_
                  rotate_left 1
                  · (try dsimp only at hSw); first | (go_simp; done) | (go_simp; with_reducible rfl)
                  try go_frame
                  refine wpAnyH_take (i := 2) (oi := _) (v := ?_) (by simp only [List.getElem?_toArray, List.getElem?_cons_succ, List.getElem?_cons_zero]; rfl) (by kernel_rfl) (by kernel_rfl) (by kernel_rfl) (by intro _ _ _ h; exact h) (Or.inl ⟨by rfl, fun W hSw => ?_⟩) hHeld ?_
                  rotate_left 1
                  · (try dsimp only at hSw); first | (go_simp; done) | (go_simp; with_reducible rfl)
                  try go_frame
                  refine wpAnyH_ready (rs := [1]) (by kernel_rfl) (by simp) ?_
                  refine AllReadyH.cons (o := _) (by simp only [List.getElem?_toArray, List.getElem?_cons_succ, List.getElem?_cons_zero]; rfl) (fun K hK => ?_) AllReadyH.nil
                  clear hHeld
                  go_simp
                  refine (rightv_any _ _ _ _ _ _ _ _ (hg.below hW0 (Nat.le_refl _)) hm2 hm3 hm4).mono ?_
                  rintro e v1 ⟨rfl, hb1⟩
                  have hB1 := hB0.trans (hb1.mono hB0.size)
                  have hW1 := hW0.trans (hb1.mono hW0.size)
                  have hx1 := ibox_next hx0 hX0 hb1
                  have hg1 := ibox_next hg0 hY0 hb1
                  have hX1 := Nat.lt_of_lt_of_le hX0 hb1.size
                  have hY1 := Nat.lt_of_lt_of_le hY0 hb1.size
                  clear hx0 hg0 hX0 hY0 hb1
                  refine hK.out _ _ ⟨hx1, hg1⟩ (fun hHeld => ?_)
                  clear hK K
                  try go_frame
                  refine wpAnyH_ready (rs := [3]) (by kernel_rfl) (by simp) ?_
                  refine AllReadyH.cons (o := _) (by simp only [List.getElem?_toArray, List.getElem?_cons_succ, List.getElem?_cons_zero]; rfl) (fun K hK => ?_) AllReadyH.nil
                  clear hHeld
                  go_simp
                  refine (rrightv_any _ _ _ _ _ _ _ _ (hg.below hW1 (Nat.le_refl _)) hm2 hm3 hm4 hm1).mono ?_
                  rintro e v2 ⟨rfl, hb2⟩
                  have hB2 := hB1.trans (hb2.mono hB1.size)
                  have hW2 := hW1.trans (hb2.mono hW1.size)
                  have hx2 := ibox_next hx1 hX1 hb2
                  have hg2 := ibox_next hg1 hY1 hb2
                  have hX2 := Nat.lt_of_lt_of_le hX1 hb2.size
                  have hY2 := Nat.lt_of_lt_of_le hY1 hb2.size
                  clear hx1 hg1 hX1 hY1 hb2
                  refine hK.out _ _ ⟨hx2, hg2⟩ (fun hHeld => ?_)
                  clear hK K
                  try go_frame
                  refine wpAnyH_take (i := 4) (oi := _) (v := ?_) (by simp only [List.getElem?_toArray, List.getElem?_cons_succ, List.getElem?_cons_zero]; rfl) (by kernel_rfl) (by kernel_rfl) (by kernel_rfl) (by intro _ _ _ h; exact h) (Or.inl ⟨by rfl, fun W hSw => ?_⟩) hHeld ?_
                  rotate_left 1
                  · (clear hSw; first | (go_simp; done) | (go_simp; with_reducible rfl))
                  try go_frame
                  refine wpAnyH_take (i := 5) (oi := _) (v := ?_) (by simp only [List.getElem?_toArray, List.getElem?_cons_succ, List.getElem?_cons_zero]; rfl) (by kernel_rfl) (by kernel_rfl) (by kernel_rfl) (by intro _ _ _ h; exact h) (Or.inl ⟨by rfl, fun W hSw => ?_⟩) hHeld ?_
                  rotate_left 1
                  · (clear hSw; first | (go_simp; done) | (go_simp; with_reducible rfl))
                  try go_frame
                  refine wpAnyH_take (i := 6) (oi := _) (v := ?_) (by simp only [List.getElem?_toArray, List.getElem?_cons_succ, List.getElem?_cons_zero]; rfl) (by kernel_rfl) (by kernel_rfl) (by kernel_rfl) (by intro _ _ _ h; exact h) (Or.inl ⟨by rfl, fun W hSw => ?_⟩) hHeld ?_
                  rotate_left 1
                  · (try dsimp only at hSw); first | (go_simp; done) | (go_simp; with_reducible rfl)
                  try go_frame
                  refine wpAnyH_take (i := 7) (oi := _) (v := ?_) (by simp only [List.getElem?_toArray, List.getElem?_cons_succ, List.getElem?_cons_zero]; rfl) (by kernel_rfl) (by kernel_rfl) (by kernel_rfl) (by intro _ _ _ h; exact h) (Or.inl ⟨by rfl, fun W hSw => ?_⟩) hHeld ?_
                  rotate_left 1
                  · (try dsimp only at hSw); first | (go_simp; done) | (go_simp; with_reducible rfl)
                  try go_frame
                  refine wpAnyH_take (i := 9) (oi := _) (v := ?_) (by simp only [List.getElem?_toArray, List.getElem?_cons_succ, List.getElem?_cons_zero]; rfl) (by kernel_rfl) (by kernel_rfl) (by kernel_rfl) (by intro _ _ _ h; exact h) (Or.inl ⟨by rfl, fun W hSw => ?_⟩) hHeld ?_
                  rotate_left 1
                  · (try dsimp only at hSw); first | (go_simp; done) | (go_simp; with_reducible rfl)
                  try go_frame
                  refine wpAnyH_take (i := 10) (oi := _) (v := ?_) (by simp only [List.getElem?_toArray, List.getElem?_cons_succ, List.getElem?_cons_zero]; rfl) (by kernel_rfl) (by kernel_rfl) (by kernel_rfl) (by intro _ _ _ h; exact h) (Or.inl ⟨by rfl, fun W hSw => ?_⟩) hHeld ?_
                  rotate_left 1
                  · (try dsimp only at hSw); first | (go_simp; done) | (go_simp; with_reducible rfl)
                  try go_frame
                  refine wpAnyH_take (i := 11) (oi := _) (v := ?_) (by simp only [List.getElem?_toArray, List.getElem?_cons_succ, List.getElem?_cons_zero]; rfl) (by kernel_rfl) (by kernel_rfl) (by kernel_rfl) (by intro _ _ _ h; exact h) (Or.inl ⟨by rfl, fun W hSw => ?_⟩) hHeld ?_
                  rotate_left 1
                  · (clear hSw; first | (go_simp; done) | (go_simp; with_reducible rfl))
                  try go_frame
                  refine wpAnyH_ready (rs := [8]) (by kernel_rfl) (by simp) ?_
                  refine AllReadyH.cons (o := _) (by simp only [List.getElem?_toArray, List.getElem?_cons_succ, List.getElem?_cons_zero]; rfl) (fun K hK => ?_) AllReadyH.nil
                  clear hHeld
                  go_simp
                  refine (HSM.out _).mono ?_
                  rintro e v3 ⟨rfl, hb3⟩
                  have hB3 := hB2.trans (hb3.mono hB2.size)
                  have hW3 := hW2.trans (hb3.mono hW2.size)
                  have hx3 := ibox_next hx2 hX2 hb3
                  have hg3 := ibox_next hg2 hY2 hb3
                  have hX3 := Nat.lt_of_lt_of_le hX2 hb3.size
                  have hY3 := Nat.lt_of_lt_of_le hY2 hb3.size
                  clear hx2 hg2 hX2 hY2 hb3
                  refine hK.out _ _ ⟨hx3, hg3⟩ (fun hHeld => ?_)
                  clear hK K
                  try go_frame
                  refine wpAnyH_take (i := 12) (oi := _) (v := ?_) (by simp only [List.getElem?_toArray, List.getElem?_cons_succ, List.getElem?_cons_zero]; rfl) (by kernel_rfl) (by kernel_rfl) (by kernel_rfl) (by intro _ _ _ h; exact h) (Or.inl ⟨by rfl, fun W hSw => ?_⟩) hHeld ?_
                  rotate_left 1
                  · (clear hSw; first | (go_simp; done) | (go_simp; with_reducible rfl))
                  try go_frame
                  refine wpAnyH_take (i := 13) (oi := _) (v := ?_) (by simp only [List.getElem?_toArray, List.getElem?_cons_succ, List.getElem?_cons_zero]; rfl) (by kernel_rfl) (by kernel_rfl) (by kernel_rfl) (by intro _ _ _ h; exact h) (Or.inl ⟨by rfl, fun W hSw => ?_⟩) hHeld ?_
                  rotate_left 1
                  · (clear hSw; first | (go_simp; done) | (go_simp; with_reducible rfl))
                  try go_frame
                  refine wpAnyH_done (by kernel_rfl) ?_ _
                  go_wp2_with fail
                  go_roundw
                  case rel => exact ⟨j + 1, by omega, by go_num, hB3⟩
                  case measure => simp [intOf]; omega
              · have hne : ¬ xk = gk := fun h => e2 h.symm
                have f3 : (xk == gk) = false := by rw [beq_eq_false_iff_ne]; exact hne
                have HSM : Hid (∀ v : World, Calls Tryd.prog 20 #[.agg #[Value.int .i64 go, Value.int .i32 gn, Value.int .i64 xk, Value.string xs, Value.string xc, Value.string xm, Value.string xd], .agg #[Value.int .i64 go, Value.int .i32 gn, Value.int .i64 gk, Value.string gs, Value.string gc, Value.string gm, Value.string gd]] v fun e v' => e = .returned (.bool false) ∧ Below v.heap.size v v') := Lib.hid (fun v => by
                  have := samev_any go gn xk go gn gk xs xc xm xd gs gc gm gd v
                  rw [decide_eq_false (by intro e; simp only [Prod.mk.injEq] at e; exact hne (by simp_all))] at this
                  exact this)
                have hx0 := ibox_new wr go gn xk xs xc xm xd _ rfl
                have hb0 : Below wr.heap.size wr ((wr.alloc (.cells #[Value.int .i64 go, Value.int .i32 gn, Value.int .i64 xk, Value.string xs, Value.string xc, Value.string xm, Value.string xd] 29)).drew) := ((Below.refl _ _).alloc (Nat.le_refl _) _).drew
                have hX0 : wr.heap.size < ((wr.alloc (.cells #[Value.int .i64 go, Value.int .i32 gn, Value.int .i64 xk, Value.string xs, Value.string xc, Value.string xm, Value.string xd] 29)).drew).heap.size := by simp
                have hY0 : W2.heap.size < ((wr.alloc (.cells #[Value.int .i64 go, Value.int .i32 gn, Value.int .i64 xk, Value.string xs, Value.string xc, Value.string xm, Value.string xd] 29)).drew).heap.size := by simp; omega
                have hg0 := ibox_next hG (by omega) hb0
                have hB0 := hbl.trans (hb0.mono hsr)
                have hW0 := hBr.trans (hb0.mono hBr.size)
                clear hb0 hG hbl hBr
                go_wp2_with fail
                refine wp_region_held_drew (S := (fun w' => (w'.cell? ⟨wr.heap.size, 0, none⟩ = some (Value.int .i64 go) ∧ w'.cell? ⟨wr.heap.size, 1, none⟩ = some (Value.int .i32 gn) ∧ w'.cell? ⟨wr.heap.size, 2, none⟩ = some (Value.int .i64 xk) ∧ w'.cell? ⟨wr.heap.size, 3, none⟩ = some (Value.string xs) ∧ w'.cell? ⟨wr.heap.size, 4, none⟩ = some (Value.string xc) ∧ w'.cell? ⟨wr.heap.size, 5, none⟩ = some (Value.string xm) ∧ w'.cell? ⟨wr.heap.size, 6, none⟩ = some (Value.string xd)) ∧ (w'.cell? ⟨W2.heap.size, 0, none⟩ = some (Value.int .i64 go) ∧ w'.cell? ⟨W2.heap.size, 1, none⟩ = some (Value.int .i32 gn) ∧ w'.cell? ⟨W2.heap.size, 2, none⟩ = some (Value.int .i64 gk) ∧ w'.cell? ⟨W2.heap.size, 3, none⟩ = some (Value.string gs) ∧ w'.cell? ⟨W2.heap.size, 4, none⟩ = some (Value.string gc) ∧ w'.cell? ⟨W2.heap.size, 5, none⟩ = some (Value.string gm) ∧ w'.cell? ⟨W2.heap.size, 6, none⟩ = some (Value.string gd)))) (by kernel_rfl) ⟨hx0, hg0⟩ (fun hHeld => ?_)
                refine wpAnyH_take (i := 0) (oi := _) (v := ?_) (by rfl) (by kernel_rfl) (by kernel_rfl) (by kernel_rfl) (by intro _ _ _ h; exact h) (Or.inl ⟨by rfl, fun W hSw => ?_⟩) hHeld ?_
                rotate_left 1
                · (try dsimp only at hSw); first | (go_simp; done) | (go_simp; with_reducible rfl)
                try go_frame
                refine wpAnyH_take (i := 2) (oi := _) (v := ?_) (by simp only [List.getElem?_toArray, List.getElem?_cons_succ, List.getElem?_cons_zero]; rfl) (by kernel_rfl) (by kernel_rfl) (by kernel_rfl) (by intro _ _ _ h; exact h) (Or.inl ⟨by rfl, fun W hSw => ?_⟩) hHeld ?_
                rotate_left 1
                · (try dsimp only at hSw); first | (go_simp; done) | (go_simp; with_reducible rfl)
                try go_frame
                refine wpAnyH_ready (rs := [1]) (by kernel_rfl) (by simp) ?_
                refine AllReadyH.cons (o := _) (by simp only [List.getElem?_toArray, List.getElem?_cons_succ, List.getElem?_cons_zero]; rfl) (fun K hK => ?_) AllReadyH.nil
                clear hHeld
                go_simp
                refine (rightv_any _ _ _ _ _ _ _ _ (hg.below hW0 (Nat.le_refl _)) hm2 hm3 hm4).mono ?_
                rintro e v1 ⟨rfl, hb1⟩
                have hB1 := hB0.trans (hb1.mono hB0.size)
                have hW1 := hW0.trans (hb1.mono hW0.size)
                have hx1 := ibox_next hx0 hX0 hb1
                have hg1 := ibox_next hg0 hY0 hb1
                have hX1 := Nat.lt_of_lt_of_le hX0 hb1.size
                have hY1 := Nat.lt_of_lt_of_le hY0 hb1.size
                clear hx0 hg0 hX0 hY0 hb1
                refine hK.out _ _ ⟨hx1, hg1⟩ (fun hHeld => ?_)
                clear hK K
                try go_frame
                refine wpAnyH_ready (rs := [3]) (by kernel_rfl) (by simp) ?_
                refine AllReadyH.cons (o := _) (by simp only [List.getElem?_toArray, List.getElem?_cons_succ, List.getElem?_cons_zero]; rfl) (fun K hK => ?_) AllReadyH.nil
                clear hHeld
                go_simp
                refine (rrightv_any _ _ _ _ _ _ _ _ (hg.below hW1 (Nat.le_refl _)) hm2 hm3 hm4 hm1).mono ?_
                rintro e v2 ⟨rfl, hb2⟩
                have hB2 := hB1.trans (hb2.mono hB1.size)
                have hW2 := hW1.trans (hb2.mono hW1.size)
                have hx2 := ibox_next hx1 hX1 hb2
                have hg2 := ibox_next hg1 hY1 hb2
                have hX2 := Nat.lt_of_lt_of_le hX1 hb2.size
                have hY2 := Nat.lt_of_lt_of_le hY1 hb2.size
                clear hx1 hg1 hX1 hY1 hb2
                refine hK.out _ _ ⟨hx2, hg2⟩ (fun hHeld => ?_)
                clear hK K
                try go_frame
                refine wpAnyH_take (i := 4) (oi := _) (v := ?_) (by simp only [List.getElem?_toArray, List.getElem?_cons_succ, List.getElem?_cons_zero]; rfl) (by kernel_rfl) (by kernel_rfl) (by kernel_rfl) (by intro _ _ _ h; exact h) (Or.inl ⟨by rfl, fun W hSw => ?_⟩) hHeld ?_
                rotate_left 1
                · (clear hSw; first | (go_simp; done) | (go_simp; with_reducible rfl))
                try go_frame
                refine wpAnyH_take (i := 5) (oi := _) (v := ?_) (by simp only [List.getElem?_toArray, List.getElem?_cons_succ, List.getElem?_cons_zero]; rfl) (by kernel_rfl) (by kernel_rfl) (by kernel_rfl) (by intro _ _ _ h; exact h) (Or.inl ⟨by rfl, fun W hSw => ?_⟩) hHeld ?_
                rotate_left 1
                · (clear hSw; first | (go_simp; done) | (go_simp; with_reducible rfl))
                try go_frame
                refine wpAnyH_take (i := 6) (oi := _) (v := ?_) (by simp only [List.getElem?_toArray, List.getElem?_cons_succ, List.getElem?_cons_zero]; rfl) (by kernel_rfl) (by kernel_rfl) (by kernel_rfl) (by intro _ _ _ h; exact h) (Or.inl ⟨by rfl, fun W hSw => ?_⟩) hHeld ?_
                rotate_left 1
                · (try dsimp only at hSw); first | (go_simp; done) | (go_simp; with_reducible rfl)
                try go_frame
                refine wpAnyH_take (i := 7) (oi := _) (v := ?_) (by simp only [List.getElem?_toArray, List.getElem?_cons_succ, List.getElem?_cons_zero]; rfl) (by kernel_rfl) (by kernel_rfl) (by kernel_rfl) (by intro _ _ _ h; exact h) (Or.inl ⟨by rfl, fun W hSw => ?_⟩) hHeld ?_
                rotate_left 1
                · (try dsimp only at hSw); first | (go_simp; done) | (go_simp; with_reducible rfl)
                try go_frame
                refine wpAnyH_take (i := 9) (oi := _) (v := ?_) (by simp only [List.getElem?_toArray, List.getElem?_cons_succ, List.getElem?_cons_zero]; rfl) (by kernel_rfl) (by kernel_rfl) (by kernel_rfl) (by intro _ _ _ h; exact h) (Or.inl ⟨by rfl, fun W hSw => ?_⟩) hHeld ?_
                rotate_left 1
                · (try dsimp only at hSw); first | (go_simp; done) | (go_simp; with_reducible rfl)
                try go_frame
                refine wpAnyH_take (i := 10) (oi := _) (v := ?_) (by simp only [List.getElem?_toArray, List.getElem?_cons_succ, List.getElem?_cons_zero]; rfl) (by kernel_rfl) (by kernel_rfl) (by kernel_rfl) (by intro _ _ _ h; exact h) (Or.inl ⟨by rfl, fun W hSw => ?_⟩) hHeld ?_
                rotate_left 1
                · (try dsimp only at hSw); first | (go_simp; done) | (go_simp; with_reducible rfl)
                try go_frame
                refine wpAnyH_take (i := 11) (oi := _) (v := ?_) (by simp only [List.getElem?_toArray, List.getElem?_cons_succ, List.getElem?_cons_zero]; rfl) (by kernel_rfl) (by kernel_rfl) (by kernel_rfl) (by intro _ _ _ h; exact h) (Or.inl ⟨by rfl, fun W hSw => ?_⟩) hHeld ?_
                rotate_left 1
                · (clear hSw; first | (go_simp; done) | (go_simp; with_reducible rfl))
                try go_frame
                refine wpAnyH_ready (rs := [8]) (by kernel_rfl) (by simp) ?_
                refine AllReadyH.cons (o := _) (by simp only [List.getElem?_toArray, List.getElem?_cons_succ, List.getElem?_cons_zero]; rfl) (fun K hK => ?_) AllReadyH.nil
                clear hHeld
                go_simp
                refine (HSM.out _).mono ?_
                rintro e v3 ⟨rfl, hb3⟩
                have hB3 := hB2.trans (hb3.mono hB2.size)
                have hW3 := hW2.trans (hb3.mono hW2.size)
                have hx3 := ibox_next hx2 hX2 hb3
                have hg3 := ibox_next hg2 hY2 hb3
                have hX3 := Nat.lt_of_lt_of_le hX2 hb3.size
                have hY3 := Nat.lt_of_lt_of_le hY2 hb3.size
                clear hx2 hg2 hX2 hY2 hb3
                refine hK.out _ _ ⟨hx3, hg3⟩ (fun hHeld => ?_)
                clear hK K
                try go_frame
                refine wpAnyH_take (i := 12) (oi := _) (v := ?_) (by simp only [List.getElem?_toArray, List.getElem?_cons_succ, List.getElem?_cons_zero]; rfl) (by kernel_rfl) (by kernel_rfl) (by kernel_rfl) (by intro _ _ _ h; exact h) (Or.inl ⟨by rfl, fun W hSw => ?_⟩) hHeld ?_
                rotate_left 1
                · (clear hSw; first | (go_simp; done) | (go_simp; with_reducible rfl))
                try go_frame
                refine wpAnyH_take (i := 13) (oi := _) (v := ?_) (by simp only [List.getElem?_toArray, List.getElem?_cons_succ, List.getElem?_cons_zero]; rfl) (by kernel_rfl) (by kernel_rfl) (by kernel_rfl) (by intro _ _ _ h; exact h) (Or.inl ⟨by rfl, fun W hSw => ?_⟩) hHeld ?_
                rotate_left 1
                · (clear hSw; first | (go_simp; done) | (go_simp; with_reducible rfl))
                try go_frame
                refine wpAnyH_done (by kernel_rfl) ?_ _
                go_wp2_with fail
                go_roundw
                case rel => exact ⟨j + 1, by omega, by go_num, hB3⟩
                case measure => simp [intOf]; omega
            · have hne : ¬ xn = gn := fun h => e1 h.symm
              have f3 : (xn == gn) = false := by rw [beq_eq_false_iff_ne]; exact hne
              have HSM : Hid (∀ v : World, Calls Tryd.prog 20 #[.agg #[Value.int .i64 go, Value.int .i32 xn, Value.int .i64 xk, Value.string xs, Value.string xc, Value.string xm, Value.string xd], .agg #[Value.int .i64 go, Value.int .i32 gn, Value.int .i64 gk, Value.string gs, Value.string gc, Value.string gm, Value.string gd]] v fun e v' => e = .returned (.bool false) ∧ Below v.heap.size v v') := Lib.hid (fun v => by
                have := samev_any go xn xk go gn gk xs xc xm xd gs gc gm gd v
                rw [decide_eq_false (by intro e; simp only [Prod.mk.injEq] at e; exact hne (by simp_all))] at this
                exact this)
              have hx0 := ibox_new wr go xn xk xs xc xm xd _ rfl
              have hb0 : Below wr.heap.size wr ((wr.alloc (.cells #[Value.int .i64 go, Value.int .i32 xn, Value.int .i64 xk, Value.string xs, Value.string xc, Value.string xm, Value.string xd] 29)).drew) := ((Below.refl _ _).alloc (Nat.le_refl _) _).drew
              have hX0 : wr.heap.size < ((wr.alloc (.cells #[Value.int .i64 go, Value.int .i32 xn, Value.int .i64 xk, Value.string xs, Value.string xc, Value.string xm, Value.string xd] 29)).drew).heap.size := by simp
              have hY0 : W2.heap.size < ((wr.alloc (.cells #[Value.int .i64 go, Value.int .i32 xn, Value.int .i64 xk, Value.string xs, Value.string xc, Value.string xm, Value.string xd] 29)).drew).heap.size := by simp; omega
              have hg0 := ibox_next hG (by omega) hb0
              have hB0 := hbl.trans (hb0.mono hsr)
              have hW0 := hBr.trans (hb0.mono hBr.size)
              clear hb0 hG hbl hBr
              go_wp2_with fail
              refine wp_region_held_drew (S := (fun w' => (w'.cell? ⟨wr.heap.size, 0, none⟩ = some (Value.int .i64 go) ∧ w'.cell? ⟨wr.heap.size, 1, none⟩ = some (Value.int .i32 xn) ∧ w'.cell? ⟨wr.heap.size, 2, none⟩ = some (Value.int .i64 xk) ∧ w'.cell? ⟨wr.heap.size, 3, none⟩ = some (Value.string xs) ∧ w'.cell? ⟨wr.heap.size, 4, none⟩ = some (Value.string xc) ∧ w'.cell? ⟨wr.heap.size, 5, none⟩ = some (Value.string xm) ∧ w'.cell? ⟨wr.heap.size, 6, none⟩ = some (Value.string xd)) ∧ (w'.cell? ⟨W2.heap.size, 0, none⟩ = some (Value.int .i64 go) ∧ w'.cell? ⟨W2.heap.size, 1, none⟩ = some (Value.int .i32 gn) ∧ w'.cell? ⟨W2.heap.size, 2, none⟩ = some (Value.int .i64 gk) ∧ w'.cell? ⟨W2.heap.size, 3, none⟩ = some (Value.string gs) ∧ w'.cell? ⟨W2.heap.size, 4, none⟩ = some (Value.string gc) ∧ w'.cell? ⟨W2.heap.size, 5, none⟩ = some (Value.string gm) ∧ w'.cell? ⟨W2.heap.size, 6, none⟩ = some (Value.string gd)))) (by kernel_rfl) ⟨hx0, hg0⟩ (fun hHeld => ?_)
              refine wpAnyH_take (i := 0) (oi := _) (v := ?_) (by rfl) (by kernel_rfl) (by kernel_rfl) (by kernel_rfl) (by intro _ _ _ h; exact h) (Or.inl ⟨by rfl, fun W hSw => ?_⟩) hHeld ?_
              rotate_left 1
              · (try dsimp only at hSw); first | (go_simp; done) | (go_simp; with_reducible rfl)
              try go_frame
              refine wpAnyH_take (i := 2) (oi := _) (v := ?_) (by simp only [List.getElem?_toArray, List.getElem?_cons_succ, List.getElem?_cons_zero]; rfl) (by kernel_rfl) (by kernel_rfl) (by kernel_rfl) (by intro _ _ _ h; exact h) (Or.inl ⟨by rfl, fun W hSw => ?_⟩) hHeld ?_
              rotate_left 1
              · (try dsimp only at hSw); first | (go_simp; done) | (go_simp; with_reducible rfl)
              try go_frame
              refine wpAnyH_ready (rs := [1]) (by kernel_rfl) (by simp) ?_
              refine AllReadyH.cons (o := _) (by simp only [List.getElem?_toArray, List.getElem?_cons_succ, List.getElem?_cons_zero]; rfl) (fun K hK => ?_) AllReadyH.nil
              clear hHeld
              go_simp
              refine (rightv_any _ _ _ _ _ _ _ _ (hg.below hW0 (Nat.le_refl _)) hm2 hm3 hm4).mono ?_
              rintro e v1 ⟨rfl, hb1⟩
              have hB1 := hB0.trans (hb1.mono hB0.size)
              have hW1 := hW0.trans (hb1.mono hW0.size)
              have hx1 := ibox_next hx0 hX0 hb1
              have hg1 := ibox_next hg0 hY0 hb1
              have hX1 := Nat.lt_of_lt_of_le hX0 hb1.size
              have hY1 := Nat.lt_of_lt_of_le hY0 hb1.size
              clear hx0 hg0 hX0 hY0 hb1
              refine hK.out _ _ ⟨hx1, hg1⟩ (fun hHeld => ?_)
              clear hK K
              try go_frame
              refine wpAnyH_ready (rs := [3]) (by kernel_rfl) (by simp) ?_
              refine AllReadyH.cons (o := _) (by simp only [List.getElem?_toArray, List.getElem?_cons_succ, List.getElem?_cons_zero]; rfl) (fun K hK => ?_) AllReadyH.nil
              clear hHeld
              go_simp
              refine (rrightv_any _ _ _ _ _ _ _ _ (hg.below hW1 (Nat.le_refl _)) hm2 hm3 hm4 hm1).mono ?_
              rintro e v2 ⟨rfl, hb2⟩
              have hB2 := hB1.trans (hb2.mono hB1.size)
              have hW2 := hW1.trans (hb2.mono hW1.size)
              have hx2 := ibox_next hx1 hX1 hb2
              have hg2 := ibox_next hg1 hY1 hb2
              have hX2 := Nat.lt_of_lt_of_le hX1 hb2.size
              have hY2 := Nat.lt_of_lt_of_le hY1 hb2.size
              clear hx1 hg1 hX1 hY1 hb2
              refine hK.out _ _ ⟨hx2, hg2⟩ (fun hHeld => ?_)
              clear hK K
              try go_frame
              refine wpAnyH_take (i := 4) (oi := _) (v := ?_) (by simp only [List.getElem?_toArray, List.getElem?_cons_succ, List.getElem?_cons_zero]; rfl) (by kernel_rfl) (by kernel_rfl) (by kernel_rfl) (by intro _ _ _ h; exact h) (Or.inl ⟨by rfl, fun W hSw => ?_⟩) hHeld ?_
              rotate_left 1
              · (clear hSw; first | (go_simp; done) | (go_simp; with_reducible rfl))
              try go_frame
              refine wpAnyH_take (i := 5) (oi := _) (v := ?_) (by simp only [List.getElem?_toArray, List.getElem?_cons_succ, List.getElem?_cons_zero]; rfl) (by kernel_rfl) (by kernel_rfl) (by kernel_rfl) (by intro _ _ _ h; exact h) (Or.inl ⟨by rfl, fun W hSw => ?_⟩) hHeld ?_
              rotate_left 1
              · (clear hSw; first | (go_simp; done) | (go_simp; with_reducible rfl))
              try go_frame
              refine wpAnyH_take (i := 6) (oi := _) (v := ?_) (by simp only [List.getElem?_toArray, List.getElem?_cons_succ, List.getElem?_cons_zero]; rfl) (by kernel_rfl) (by kernel_rfl) (by kernel_rfl) (by intro _ _ _ h; exact h) (Or.inl ⟨by rfl, fun W hSw => ?_⟩) hHeld ?_
              rotate_left 1
              · (try dsimp only at hSw); first | (go_simp; done) | (go_simp; with_reducible rfl)
              try go_frame
              refine wpAnyH_take (i := 7) (oi := _) (v := ?_) (by simp only [List.getElem?_toArray, List.getElem?_cons_succ, List.getElem?_cons_zero]; rfl) (by kernel_rfl) (by kernel_rfl) (by kernel_rfl) (by intro _ _ _ h; exact h) (Or.inl ⟨by rfl, fun W hSw => ?_⟩) hHeld ?_
              rotate_left 1
              · (try dsimp only at hSw); first | (go_simp; done) | (go_simp; with_reducible rfl)
              try go_frame
              refine wpAnyH_take (i := 9) (oi := _) (v := ?_) (by simp only [List.getElem?_toArray, List.getElem?_cons_succ, List.getElem?_cons_zero]; rfl) (by kernel_rfl) (by kernel_rfl) (by kernel_rfl) (by intro _ _ _ h; exact h) (Or.inl ⟨by rfl, fun W hSw => ?_⟩) hHeld ?_
              rotate_left 1
              · (try dsimp only at hSw); first | (go_simp; done) | (go_simp; with_reducible rfl)
              try go_frame
              refine wpAnyH_take (i := 10) (oi := _) (v := ?_) (by simp only [List.getElem?_toArray, List.getElem?_cons_succ, List.getElem?_cons_zero]; rfl) (by kernel_rfl) (by kernel_rfl) (by kernel_rfl) (by intro _ _ _ h; exact h) (Or.inl ⟨by rfl, fun W hSw => ?_⟩) hHeld ?_
              rotate_left 1
              · (try dsimp only at hSw); first | (go_simp; done) | (go_simp; with_reducible rfl)
              try go_frame
              refine wpAnyH_take (i := 11) (oi := _) (v := ?_) (by simp only [List.getElem?_toArray, List.getElem?_cons_succ, List.getElem?_cons_zero]; rfl) (by kernel_rfl) (by kernel_rfl) (by kernel_rfl) (by intro _ _ _ h; exact h) (Or.inl ⟨by rfl, fun W hSw => ?_⟩) hHeld ?_
              rotate_left 1
              · (clear hSw; first | (go_simp; done) | (go_simp; with_reducible rfl))
              try go_frame
              refine wpAnyH_ready (rs := [8]) (by kernel_rfl) (by simp) ?_
              refine AllReadyH.cons (o := _) (by simp only [List.getElem?_toArray, List.getElem?_cons_succ, List.getElem?_cons_zero]; rfl) (fun K hK => ?_) AllReadyH.nil
              clear hHeld
              go_simp
              refine (HSM.out _).mono ?_
              rintro e v3 ⟨rfl, hb3⟩
              have hB3 := hB2.trans (hb3.mono hB2.size)
              have hW3 := hW2.trans (hb3.mono hW2.size)
              have hx3 := ibox_next hx2 hX2 hb3
              have hg3 := ibox_next hg2 hY2 hb3
              have hX3 := Nat.lt_of_lt_of_le hX2 hb3.size
              have hY3 := Nat.lt_of_lt_of_le hY2 hb3.size
              clear hx2 hg2 hX2 hY2 hb3
              refine hK.out _ _ ⟨hx3, hg3⟩ (fun hHeld => ?_)
              clear hK K
              try go_frame
              refine wpAnyH_take (i := 12) (oi := _) (v := ?_) (by simp only [List.getElem?_toArray, List.getElem?_cons_succ, List.getElem?_cons_zero]; rfl) (by kernel_rfl) (by kernel_rfl) (by kernel_rfl) (by intro _ _ _ h; exact h) (Or.inl ⟨by rfl, fun W hSw => ?_⟩) hHeld ?_
              rotate_left 1
              · (clear hSw; first | (go_simp; done) | (go_simp; with_reducible rfl))
              try go_frame
              refine wpAnyH_take (i := 13) (oi := _) (v := ?_) (by simp only [List.getElem?_toArray, List.getElem?_cons_succ, List.getElem?_cons_zero]; rfl) (by kernel_rfl) (by kernel_rfl) (by kernel_rfl) (by intro _ _ _ h; exact h) (Or.inl ⟨by rfl, fun W hSw => ?_⟩) hHeld ?_
              rotate_left 1
              · (clear hSw; first | (go_simp; done) | (go_simp; with_reducible rfl))
              try go_frame
              refine wpAnyH_done (by kernel_rfl) ?_ _
              go_wp2_with fail
              go_roundw
              case rel => exact ⟨j + 1, by omega, by go_num, hB3⟩
              case measure => simp [intOf]; omega
          · have hne : ¬ xo = go := fun h => e0 h.symm
            have f3 : (xo == go) = false := by rw [beq_eq_false_iff_ne]; exact hne
            have HSM : Hid (∀ v : World, Calls Tryd.prog 20 #[.agg #[Value.int .i64 xo, Value.int .i32 xn, Value.int .i64 xk, Value.string xs, Value.string xc, Value.string xm, Value.string xd], .agg #[Value.int .i64 go, Value.int .i32 gn, Value.int .i64 gk, Value.string gs, Value.string gc, Value.string gm, Value.string gd]] v fun e v' => e = .returned (.bool false) ∧ Below v.heap.size v v') := Lib.hid (fun v => by
              have := samev_any xo xn xk go gn gk xs xc xm xd gs gc gm gd v
              rw [decide_eq_false (by intro e; simp only [Prod.mk.injEq] at e; exact hne (by simp_all))] at this
              exact this)
            have hx0 := ibox_new wr xo xn xk xs xc xm xd _ rfl
            have hb0 : Below wr.heap.size wr ((wr.alloc (.cells #[Value.int .i64 xo, Value.int .i32 xn, Value.int .i64 xk, Value.string xs, Value.string xc, Value.string xm, Value.string xd] 29)).drew) := ((Below.refl _ _).alloc (Nat.le_refl _) _).drew
            have hX0 : wr.heap.size < ((wr.alloc (.cells #[Value.int .i64 xo, Value.int .i32 xn, Value.int .i64 xk, Value.string xs, Value.string xc, Value.string xm, Value.string xd] 29)).drew).heap.size := by simp
            have hY0 : W2.heap.size < ((wr.alloc (.cells #[Value.int .i64 xo, Value.int .i32 xn, Value.int .i64 xk, Value.string xs, Value.string xc, Value.string xm, Value.string xd] 29)).drew).heap.size := by simp; omega
            have hg0 := ibox_next hG (by omega) hb0
            have hB0 := hbl.trans (hb0.mono hsr)
            have hW0 := hBr.trans (hb0.mono hBr.size)
            clear hb0 hG hbl hBr
            go_wp2_with fail
            refine wp_region_held_drew (S := (fun w' => (w'.cell? ⟨wr.heap.size, 0, none⟩ = some (Value.int .i64 xo) ∧ w'.cell? ⟨wr.heap.size, 1, none⟩ = some (Value.int .i32 xn) ∧ w'.cell? ⟨wr.heap.size, 2, none⟩ = some (Value.int .i64 xk) ∧ w'.cell? ⟨wr.heap.size, 3, none⟩ = some (Value.string xs) ∧ w'.cell? ⟨wr.heap.size, 4, none⟩ = some (Value.string xc) ∧ w'.cell? ⟨wr.heap.size, 5, none⟩ = some (Value.string xm) ∧ w'.cell? ⟨wr.heap.size, 6, none⟩ = some (Value.string xd)) ∧ (w'.cell? ⟨W2.heap.size, 0, none⟩ = some (Value.int .i64 go) ∧ w'.cell? ⟨W2.heap.size, 1, none⟩ = some (Value.int .i32 gn) ∧ w'.cell? ⟨W2.heap.size, 2, none⟩ = some (Value.int .i64 gk) ∧ w'.cell? ⟨W2.heap.size, 3, none⟩ = some (Value.string gs) ∧ w'.cell? ⟨W2.heap.size, 4, none⟩ = some (Value.string gc) ∧ w'.cell? ⟨W2.heap.size, 5, none⟩ = some (Value.string gm) ∧ w'.cell? ⟨W2.heap.size, 6, none⟩ = some (Value.string gd)))) (by kernel_rfl) ⟨hx0, hg0⟩ (fun hHeld => ?_)
            refine wpAnyH_take (i := 0) (oi := _) (v := ?_) (by rfl) (by kernel_rfl) (by kernel_rfl) (by kernel_rfl) (by intro _ _ _ h; exact h) (Or.inl ⟨by rfl, fun W hSw => ?_⟩) hHeld ?_
            rotate_left 1
            · (try dsimp only at hSw); first | (go_simp; done) | (go_simp; with_reducible rfl)
            try go_frame
            refine wpAnyH_take (i := 2) (oi := _) (v := ?_) (by simp only [List.getElem?_toArray, List.getElem?_cons_succ, List.getElem?_cons_zero]; rfl) (by kernel_rfl) (by kernel_rfl) (by kernel_rfl) (by intro _ _ _ h; exact h) (Or.inl ⟨by rfl, fun W hSw => ?_⟩) hHeld ?_
            rotate_left 1
            · (try dsimp only at hSw); first | (go_simp; done) | (go_simp; with_reducible rfl)
            try go_frame
            refine wpAnyH_ready (rs := [1]) (by kernel_rfl) (by simp) ?_
            refine AllReadyH.cons (o := _) (by simp only [List.getElem?_toArray, List.getElem?_cons_succ, List.getElem?_cons_zero]; rfl) (fun K hK => ?_) AllReadyH.nil
            clear hHeld
            go_simp
            refine (rightv_any _ _ _ _ _ _ _ _ (hg.below hW0 (Nat.le_refl _)) hm2 hm3 hm4).mono ?_
            rintro e v1 ⟨rfl, hb1⟩
            have hB1 := hB0.trans (hb1.mono hB0.size)
            have hW1 := hW0.trans (hb1.mono hW0.size)
            have hx1 := ibox_next hx0 hX0 hb1
            have hg1 := ibox_next hg0 hY0 hb1
            have hX1 := Nat.lt_of_lt_of_le hX0 hb1.size
            have hY1 := Nat.lt_of_lt_of_le hY0 hb1.size
            clear hx0 hg0 hX0 hY0 hb1
            refine hK.out _ _ ⟨hx1, hg1⟩ (fun hHeld => ?_)
            clear hK K
            try go_frame
            refine wpAnyH_ready (rs := [3]) (by kernel_rfl) (by simp) ?_
            refine AllReadyH.cons (o := _) (by simp only [List.getElem?_toArray, List.getElem?_cons_succ, List.getElem?_cons_zero]; rfl) (fun K hK => ?_) AllReadyH.nil
            clear hHeld
            go_simp
            refine (rrightv_any _ _ _ _ _ _ _ _ (hg.below hW1 (Nat.le_refl _)) hm2 hm3 hm4 hm1).mono ?_
            rintro e v2 ⟨rfl, hb2⟩
            have hB2 := hB1.trans (hb2.mono hB1.size)
            have hW2 := hW1.trans (hb2.mono hW1.size)
            have hx2 := ibox_next hx1 hX1 hb2
            have hg2 := ibox_next hg1 hY1 hb2
            have hX2 := Nat.lt_of_lt_of_le hX1 hb2.size
            have hY2 := Nat.lt_of_lt_of_le hY1 hb2.size
            clear hx1 hg1 hX1 hY1 hb2
            refine hK.out _ _ ⟨hx2, hg2⟩ (fun hHeld => ?_)
            clear hK K
            try go_frame
            refine wpAnyH_take (i := 4) (oi := _) (v := ?_) (by simp only [List.getElem?_toArray, List.getElem?_cons_succ, List.getElem?_cons_zero]; rfl) (by kernel_rfl) (by kernel_rfl) (by kernel_rfl) (by intro _ _ _ h; exact h) (Or.inl ⟨by rfl, fun W hSw => ?_⟩) hHeld ?_
            rotate_left 1
            · (clear hSw; first | (go_simp; done) | (go_simp; with_reducible rfl))
            try go_frame
            refine wpAnyH_take (i := 5) (oi := _) (v := ?_) (by simp only [List.getElem?_toArray, List.getElem?_cons_succ, List.getElem?_cons_zero]; rfl) (by kernel_rfl) (by kernel_rfl) (by kernel_rfl) (by intro _ _ _ h; exact h) (Or.inl ⟨by rfl, fun W hSw => ?_⟩) hHeld ?_
            rotate_left 1
            · (clear hSw; first | (go_simp; done) | (go_simp; with_reducible rfl))
            try go_frame
            refine wpAnyH_take (i := 6) (oi := _) (v := ?_) (by simp only [List.getElem?_toArray, List.getElem?_cons_succ, List.getElem?_cons_zero]; rfl) (by kernel_rfl) (by kernel_rfl) (by kernel_rfl) (by intro _ _ _ h; exact h) (Or.inl ⟨by rfl, fun W hSw => ?_⟩) hHeld ?_
            rotate_left 1
            · (try dsimp only at hSw); first | (go_simp; done) | (go_simp; with_reducible rfl)
            try go_frame
            refine wpAnyH_take (i := 7) (oi := _) (v := ?_) (by simp only [List.getElem?_toArray, List.getElem?_cons_succ, List.getElem?_cons_zero]; rfl) (by kernel_rfl) (by kernel_rfl) (by kernel_rfl) (by intro _ _ _ h; exact h) (Or.inl ⟨by rfl, fun W hSw => ?_⟩) hHeld ?_
            rotate_left 1
            · (try dsimp only at hSw); first | (go_simp; done) | (go_simp; with_reducible rfl)
            try go_frame
            refine wpAnyH_take (i := 9) (oi := _) (v := ?_) (by simp only [List.getElem?_toArray, List.getElem?_cons_succ, List.getElem?_cons_zero]; rfl) (by kernel_rfl) (by kernel_rfl) (by kernel_rfl) (by intro _ _ _ h; exact h) (Or.inl ⟨by rfl, fun W hSw => ?_⟩) hHeld ?_
            rotate_left 1
            · (try dsimp only at hSw); first | (go_simp; done) | (go_simp; with_reducible rfl)
            try go_frame
            refine wpAnyH_take (i := 10) (oi := _) (v := ?_) (by simp only [List.getElem?_toArray, List.getElem?_cons_succ, List.getElem?_cons_zero]; rfl) (by kernel_rfl) (by kernel_rfl) (by kernel_rfl) (by intro _ _ _ h; exact h) (Or.inl ⟨by rfl, fun W hSw => ?_⟩) hHeld ?_
            rotate_left 1
            · (try dsimp only at hSw); first | (go_simp; done) | (go_simp; with_reducible rfl)
            try go_frame
            refine wpAnyH_take (i := 11) (oi := _) (v := ?_) (by simp only [List.getElem?_toArray, List.getElem?_cons_succ, List.getElem?_cons_zero]; rfl) (by kernel_rfl) (by kernel_rfl) (by kernel_rfl) (by intro _ _ _ h; exact h) (Or.inl ⟨by rfl, fun W hSw => ?_⟩) hHeld ?_
            rotate_left 1
            · (clear hSw; first | (go_simp; done) | (go_simp; with_reducible rfl))
            try go_frame
            refine wpAnyH_ready (rs := [8]) (by kernel_rfl) (by simp) ?_
            refine AllReadyH.cons (o := _) (by simp only [List.getElem?_toArray, List.getElem?_cons_succ, List.getElem?_cons_zero]; rfl) (fun K hK => ?_) AllReadyH.nil
            clear hHeld
            go_simp
            refine (HSM.out _).mono ?_
            rintro e v3 ⟨rfl, hb3⟩
            have hB3 := hB2.trans (hb3.mono hB2.size)
            have hW3 := hW2.trans (hb3.mono hW2.size)
            have hx3 := ibox_next hx2 hX2 hb3
            have hg3 := ibox_next hg2 hY2 hb3
            have hX3 := Nat.lt_of_lt_of_le hX2 hb3.size
            have hY3 := Nat.lt_of_lt_of_le hY2 hb3.size
            clear hx2 hg2 hX2 hY2 hb3
            refine hK.out _ _ ⟨hx3, hg3⟩ (fun hHeld => ?_)
            clear hK K
            try go_frame
            refine wpAnyH_take (i := 12) (oi := _) (v := ?_) (by simp only [List.getElem?_toArray, List.getElem?_cons_succ, List.getElem?_cons_zero]; rfl) (by kernel_rfl) (by kernel_rfl) (by kernel_rfl) (by intro _ _ _ h; exact h) (Or.inl ⟨by rfl, fun W hSw => ?_⟩) hHeld ?_
            rotate_left 1
            · (clear hSw; first | (go_simp; done) | (go_simp; with_reducible rfl))
            try go_frame
            refine wpAnyH_take (i := 13) (oi := _) (v := ?_) (by simp only [List.getElem?_toArray, List.getElem?_cons_succ, List.getElem?_cons_zero]; rfl) (by kernel_rfl) (by kernel_rfl) (by kernel_rfl) (by intro _ _ _ h; exact h) (Or.inl ⟨by rfl, fun W hSw => ?_⟩) hHeld ?_
            rotate_left 1
            · (clear hSw; first | (go_simp; done) | (go_simp; with_reducible rfl))
            try go_frame
            refine wpAnyH_done (by kernel_rfl) ?_ _
            go_wp2_with fail
            go_roundw
            case rel => exact ⟨j + 1, by omega, by go_num, hB3⟩
            case measure => simp [intOf]; omega
        · obtain rfl : j = 5 := by omega
          go_wp2_with fail
          go_ret
          exact ⟨rfl, hBA.trans (hbl.mono hBA.size)⟩

end Go.Proofs.YtibciicpgjgjbaaDoor
