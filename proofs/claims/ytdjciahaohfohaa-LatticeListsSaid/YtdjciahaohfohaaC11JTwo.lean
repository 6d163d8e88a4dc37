/- Texts that the proof is made of, joined. No condition. -/
import Derived.Test.YtdjciahaohfohaaC1115
import Derived.Deep.DeepCutAuto
import Derived.Deep.CutBlock
set_option linter.unusedVariables false
set_option linter.unusedSimpArgs false
set_option maxRecDepth 100000
set_option maxHeartbeats 16000000
namespace Go.Proofs.Ytdjciahaohfohaa.R
open Go.RowKit Go.Proofs.Ytdjciahaohfohaa.D Go.Proofs.Ytdjciahaohfohaa.O Go.Proofs.Ytdjciahaohfohaa.A
theorem rd_place6 {w : World} {p : Option Addr} {n c i : Nat} {l : List UInt8} {x : UInt8} (h : Rd w (.slice p n c) l) (hx : l[i]? = some x) : ∃ a : Addr, p = some a ∧ w.cell? (a.add i) = some (.int .u8 (x.toNat : Int)) := by
  obtain ⟨p', c', e, hle, hn, hc⟩ := h
  simp only [Value.slice.injEq] at e
  obtain ⟨rfl, rfl, rfl⟩ := e
  have hi := (List.getElem?_eq_some_iff.1 hx).1
  cases p with
  | none =>
    have := hn rfl
    omega
  | some a => exact ⟨a, rfl, hc a rfl i x hx⟩
abbrev OT (W : World) (B : Nat) (v : Value) (A : List Ty) : Prop := OwnX 2 24 (sP tyC) W B v A
def TwoO (W : World) (B : Nat) (va vb : Value) (A L : List Ty) : Prop := OT W B va A ∧ OT W B vb L ∧ ∀ g, va.ownBlock = some g → vb.ownBlock = some g → False
theorem TwoO.symm {W : World} {B : Nat} {va vb : Value} {A L : List Ty} (h : TwoO W B va vb A L) : TwoO W B vb va L A := ⟨h.2.1, h.1, fun g a b => h.2.2 g b a⟩
theorem TwoO.nil (W : World) (B : Nat) : TwoO W B (.slice none 0 0) (.slice none 0 0) [] [] := ⟨OwnX.nil _ _ _ _ _, OwnX.nil _ _ _ _ _, fun g h => by cases h⟩
theorem TwoO.below {W W' : World} {B : Nat} {va vb : Value} {A L : List Ty} (h : TwoO W B va vb A L) (hb : Below W.heap.size W W') : TwoO W' B va vb A L :=
  ⟨h.1.kptS (.of_below hb : Kpt [] _ _) (by simp), h.2.1.kptS (.of_below hb : Kpt [] _ _) (by simp), h.2.2⟩
theorem TwoO.appA {W W' : World} {B : Nat} {va vb va' : Value} {A L A' : List Ty} (h : TwoO W B va vb A L) (ho : OT W' B va' A') (hg : W.grownBy W' va.ownBlock) (hl : va'.ownBlock = va.ownBlock ∨ va'.ownBlock = some W.heap.size) : TwoO W' B va' vb A' L := by
  refine ⟨ho, h.2.1.kptS (S := va.ownBlock.toList) (Kpt.of_grown hg (fun g e => .inl (by rw [e]; simp))) (fun g e hm => h.2.2 g (by simpa using hm) e), fun g e1 e2 => ?_⟩
  rcases hl with hl | hl
  · exact h.2.2 g (hl.symm.trans e1) e2
  · have h1 := (h.2.1.lt g e2).2
    rw [hl] at e1
    cases e1
    omega
theorem TwoO.appB {W W' : World} {B : Nat} {va vb vb' : Value} {A L L' : List Ty} (h : TwoO W B va vb A L) (ho : OT W' B vb' L') (hg : W.grownBy W' vb.ownBlock) (hl : vb'.ownBlock = vb.ownBlock ∨ vb'.ownBlock = some W.heap.size) : TwoO W' B va vb' A L' := (h.symm.appA ho hg hl).symm
theorem grown_bel {W W' : World} {B : Nat} {v : Value} {A : List Ty} (ho : OT W B v A) (hg : W.grownBy W' v.ownBlock) (hB : B ≤ W.heap.size) : Below B W W' :=
  (Kpt.of_grown (S := v.ownBlock.toList) hg (fun g e => .inl (by rw [e]; simp))).below (fun x hx => (ho.lt x (by simpa using hx)).1) hB
def tyL (s : ByteArray) (l : List UInt8) : List Ty := l.map fun x => ofJ x.toNat s
def rotL (l : List UInt8) (y : Nat) : List UInt8 := (List.range l.length).map fun t => l.getD ((t + y) % l.length) 0
theorem tyL_next {s : ByteArray} {l : List UInt8} {i : Nat} {x : UInt8} (h : l[i]? = some x) : tyL s (l.take i) ++ [ofJ x.toNat s] = tyL s (l.take (i + 1)) := by
  unfold tyL
  rw [List.take_add_one, h, List.map_append]
  rfl
theorem rot_len (l : List UInt8) (y : Nat) : (rotL l y).length = l.length := by unfold rotL; simp
theorem rot_at {l : List UInt8} {y i : Nat} {z : UInt8} (hi : i < l.length) (hz : l[(i + y) % l.length]? = some z) : (rotL l y)[i]? = some z := by
  unfold rotL
  rw [List.getElem?_map, List.getElem?_range hi, Option.map_some, List.getD_eq_getElem?_getD, hz]
  rfl
theorem tyL_len (s : ByteArray) (l : List UInt8) : (tyL s l).length = l.length := by unfold tyL; simp
theorem tyL_sz {s : ByteArray} {l : List UInt8} {B : Nat} (hB : 9 ≤ B) (hs : s.size ≤ B) : ∀ t ∈ tyL s l, t.2.size ≤ B := by
  intro t ht
  obtain ⟨x, -, rfl⟩ := List.mem_map.1 ht
  show (ofJ x.toNat s).2.size ≤ B
  unfold ofJ
  split
  · have key : ∀ i : Fin 12, (nmJ.getD i.val es).size ≤ 9 := by decide
    exact Nat.le_trans (key ⟨x.toNat % 12, Nat.mod_lt _ (by decide)⟩) hB
  · have h8 := Nat.mod_lt x.toNat (show 0 < 8 by decide)
    have h9 : x.toNat % 8 = 0 ∨ x.toNat % 8 = 1 ∨ x.toNat % 8 = 2 ∨ x.toNat % 8 = 3 ∨ x.toNat % 8 = 4 ∨ x.toNat % 8 = 5 ∨ x.toNat % 8 = 6 ∨ x.toNat % 8 = 7 := by omega
    rcases h9 with e | e | e | e | e | e | e | e <;> rw [e] <;> first | exact hs | exact Nat.zero_le _
theorem jo_swap (b3 b6 b2 : Bool) (x z : Nat) : joinT (tabT b3 b6 b2) (ofJ x ⟨#[65]⟩) (ofJ z ⟨#[66]⟩) = joinT (tabT b3 b6 b2) (ofJ z ⟨#[66]⟩) (ofJ x ⟨#[65]⟩) := by
  obtain ⟨ha, ia⟩ := of_ix (s := ⟨#[65]⟩) (sx := 7) rfl x
  obtain ⟨hb, ib⟩ := of_ix (s := ⟨#[66]⟩) (sx := 8) rfl z
  have h1 := jo_at b3 b6 b2 ha hb
  have h2 := jo_at b3 b6 b2 hb ha
  rw [jo_comm ⟨_, ia⟩ ⟨_, ib⟩] at h1
  exact Option.some.inj (h1.symm.trans h2)
theorem cells_at {W : World} {ok : Nat → Prop} {p : Option Addr} {n c i : Nat} {A : List Ty} {t : Ty} (h : RdX 2 (sP tyC) ok W (.slice p n c) A) (hi : A[i]? = some t) : ∃ b o, p = some ⟨b, o, none⟩ ∧ b < W.heap.size ∧ CellsAt W b (o + i * 2) (tyC t) := by
  obtain ⟨b, o, e, -, -, -, hb, hc⟩ := h.place (fun e => by rw [e] at hi; simp at hi)
  exact ⟨b, o, e, hb, sP_at (hc i t hi)⟩
end Go.Proofs.Ytdjciahaohfohaa.R
