/- A slice of texts that came in; a slice of noughts. -/
import Derived.Test.YtnpbhpidciiciaaPKnown
import Derived.Test.YtnpbhpidciiciaaOpen
import Derived.SliceStrings
import Derived.ProofKit
import Derived.Deep.RegionHeld
namespace Go.Proofs.Ytnpbhpidciiciaa
open Go.ChangeShapes Go.WideShapes Go.ChangeAt Go.RowKit

/-- a slice of texts that came in, each no longer than a text can be -/
def IsTxts (w : World) (a : Option Addr) (len cap : Nat) (ss : List ByteArray) : Prop := IsStrs w a len cap ss ∧ ∀ s ∈ ss, s.size ≤ maxLen

theorem txts_open {H : Type} {enc : TypeId × Value → H} {w : World} {base : Nat} {spare : Nat → Bool} {held : Bool} {fuel : Nat} {a : Option Addr} {len cap : Nat} {x : DataW H × List MemPlace}
    (h : DataW.trod enc Try.prog w base spare held fuel 22 (Value.cells (.slice a len cap)).toList = some x) (hsp : ∀ b, spare b = true := by exact fun _ => rfl) : ∃ ss, IsTxts w a len cap ss := by
  rcases open_strings Try.underlying22 Try.underlying9 (by kernel_rfl) h with ⟨hcs, _⟩ | ⟨x, l, c, ss, hcs, _, hl, hm, hz, _, hcell, hsz⟩
  · simp [Value.cells] at hcs
    obtain ⟨rfl, rfl, rfl⟩ := hcs
    exact ⟨[], .inl ⟨rfl, rfl, rfl⟩, fun s h => by simp at h⟩
  · simp [Value.cells] at hcs
    obtain ⟨rfl, rfl, rfl⟩ := hcs
    exact ⟨ss, .inr ⟨_, rfl, hl, hm, by simpa [hsp] using hz, hcell⟩, hsz⟩

theorem txts_size {w : World} {a : Option Addr} {len cap : Nat} {ss : List ByteArray} (h : IsTxts w a len cap ss) (i : Nat) : (ss.getD i ByteArray.empty).size ≤ 9223372036854775807 := by
  rw [List.getD_eq_getElem?_getD]
  cases hi : ss[i]? with
  | none => simp
  | some s =>
    have := h.2 s (List.mem_of_getElem? hi)
    unfold maxLen at this
    simp
    omega

theorem strs_le {w : World} {a : Option Addr} {len cap : Nat} {ss : List ByteArray} (h : IsStrs w a len cap ss) : len ≤ 9223372036854775807 := by
  rcases h with ⟨_, h, _⟩ | ⟨_, _, h1, h2, _⟩
  · omega
  · unfold maxLen at h2; omega

theorem made_u8 (n : Nat) : (madeCells (Value.int .u8 0).cells (n * 1)).toList = (List.replicate n (0 : UInt8)).map u8 := by
  unfold madeCells
  rw [Nat.mul_one, Array.toList_map, Array.toList_range]
  apply List.ext_getElem
  · simp
  · intro i h1 h2
    simp
    rw [show (Value.int .u8 0).cells.size = 1 from rfl, Nat.mod_one]
    rfl

theorem wp_zero {w : World} {ops : Array Oper} {rest : List Oper} {o : Oper} {a : Act} {Q : Exit → Act → World → Prop} (hgd : o.guard = none) (s x : Operand)
    (ho : o.op = Op.makeSlice 23 s x)
    (B : Nat) (L C : Int) (n : Nat) (hs : a.eval s = .int .i64 L) (hx : a.eval x = .int .i64 C) (hL : L = (n : Int)) (hC : C = (n : Int)) (hn : n ≤ 1000000) (hbase : B ≤ w.heap.size)
    (h : ∀ w', Own w' B (.slice (some ⟨w.heap.size, 0, none⟩) n n) (List.replicate n 0) → w.grownBy w' none → wpList Try.prog ops Q rest (a.put o.dst (.slice (some ⟨w.heap.size, 0, none⟩) n n)) w') :
    wpList Try.prog ops Q (o :: rest) a w := by
  obtain ⟨i0, hi, hz0, hz1, hz2⟩ := info_parts Try.infoB
  refine wpList_make_full w hgd s x 23 ho B 5 i0 (.int .u8 0) 1 Try.underlying23 hi hz0 hz1 .i64 .i64 L C n hs hx hL hC (by rw [hz2]; omega) (by unfold maxLen; omega) hbase ?_
  intro w' hw hg
  refine h w' ?_ hg
  unfold Own
  rw [List.length_replicate, ← made_u8]
  exact hw

theorem rdone_yes {B rb : Nat} {bs : List UInt8} {k : Nat} {w : World} (h : Rdr w B rb bs k 0) (hk : k = bs.length) (hl : bs.length ≤ 400000) :
    Calls Try.prog 22 #[.pointer (some ⟨rb, 0, none⟩)] w fun r w' => r = .returned (.bool true) ∧ Drawn w w' :=
  (rdone_any B rb bs k 0 w h hl).mono fun _ _ ⟨h1, h2⟩ => ⟨by rw [h1, decide_eq_true (show 0 = 0 ∧ k = bs.length from ⟨rfl, hk⟩)], h2⟩

theorem rdone_no {B rb : Nat} {bs : List UInt8} {k e : Nat} {w : World} (h : Rdr w B rb bs k e) (hk : ¬ (e = 0 ∧ k = bs.length)) (hl : bs.length ≤ 400000) :
    Calls Try.prog 22 #[.pointer (some ⟨rb, 0, none⟩)] w fun r w' => r = .returned (.bool false) ∧ Drawn w w' :=
  (rdone_any B rb bs k e w h hl).mono fun _ _ ⟨h1, h2⟩ => ⟨by rw [h1, decide_eq_false hk], h2⟩

theorem wpAnyH_and {P : Program} {ops : Array Oper} {Q : Exit → Act → World → Prop} {md : Region.Mode} {S T : World → Prop} : ∀ (fuel : Nat) (listed : Array Bool) (a : Act) (w : World),
    wpAnyH P md ops Q (fun w => S w ∧ T w) fuel listed a w → wpAnyH P md ops Q S fuel listed a w
  | 0, _, _, _, h => h
  | fuel + 1, _, _, _, h => ⟨h.1, fun i hi => wpOp_mono (fun a' w' h' => ⟨h'.1.1, wpAnyH_and fuel _ a' w' h'.2⟩) (h.2 i hi)⟩

end Go.Proofs.Ytnpbhpidciiciaa
