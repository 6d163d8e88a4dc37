/- What Bytes of the program's Pool answers, and what those bytes tell again. -/
import Derived.Test.YtnpbhpidciiciaaPPut
namespace Go.Proofs.Ytnpbhpidciiciaa
open Go.RowKit Go.Maps

/-- a text's bytes -/
def tb (s : ByteArray) : List UInt8 := nb s.size ++ sb s
/-- the texts' bytes -/
def tbs (L : List ByteArray) : List UInt8 := L.flatMap tb
/-- a Pool's bytes -/
def poolB (L : List ByteArray) : List UInt8 := nb L.length ++ tbs L

theorem tbs_snoc (L : List ByteArray) (k : Nat) (h : k < L.length) : tbs (L.take (k + 1)) = tbs (L.take k) ++ tb L[k] := by
  rw [List.take_succ_eq_append_getElem h, tbs, tbs, List.flatMap_append, List.flatMap_cons, List.flatMap_nil, List.append_nil]

theorem tbs_cons (s : ByteArray) (L : List ByteArray) : tbs (s :: L) = tb s ++ tbs L := rfl

theorem tb_len {s : ByteArray} (h : s.size ≤ 10000) : (tb s).length ≤ s.size + 10 := by
  unfold tb
  rw [List.length_append, sb_len]
  have := nb_len10 (u64_of_le h (by decide)).out
  omega

theorem tbs_take (L : List ByteArray) (k : Nat) : (tbs (L.take k)).length ≤ (tbs L).length := by
  have : tbs L = tbs (L.take k) ++ tbs (L.drop k) := by
    unfold tbs
    rw [← List.flatMap_append, List.take_append_drop]
  rw [this, List.length_append]
  omega

/-- a slice of one int, just made -/
theorem nums_len (n : Nat) : nums [(n : Int)] = nb n := by rw [nums_one, cnt_nat]

set_option maxHeartbeats 1000000 in
set_option maxRecDepth 100000 in
theorem pbytes_any (B pb mb : Nat) (sl : Value) (L : List ByteArray) (w : World) (h : Pl w B pb mb sl L) (hL : L.length ≤ 100000) (hs : ∀ s ∈ L, s.size ≤ 10000) (hT : (tbs L).length ≤ 300000) :
    Calls Try.prog 14 #[.pointer (some ⟨pb, 0, none⟩)] w fun e w' => ∃ v, e = .returned v ∧ Own w' w.heap.size v (poolB L) ∧ Below w.heap.size w w' := by
  obtain ⟨hlt, c0, _, _⟩ := h.cells
  obtain ⟨a, c, hsl, h1, h2, hf⟩ := h.2.2.2.1.form
  have hbl := fun g (e : sl.ownBlock = some g) => (h.lt g (mem_fp.2 (.inr (.inr e)))).2
  have hn10 := nb_len10 (u64_of_le hL (by decide)).out
  subst hsl
  unfold maxLen at h2
  clear h
  go_enter Try.func14, Try.ntmps14
  go_wp2_with fail
  refine (num_any (.slice none 0 0) _ [] [(L.length : Int)] _ (rd_nil _) (.inl rfl) (by simp) (rdI_new1 w _ _ (by omega) (by omega)) (.inr fun g hg => by cases hg; simp) (by simp)).mono ?_
  rintro e w1 ⟨v1, rfl, ho1, hb1⟩
  have hB1 : Below w.heap.size w w1 := ((Below.refl _ w).alloc (Nat.le_refl _) _).trans (hb1.mono (by simp))
  have ho2 : Own w1 w.heap.size v1 (nb L.length) := by
    rw [List.nil_append, nums_len] at ho1
    exact ho1.mono (by simp)
  have d0 : w1.cell? ⟨pb, 0, none⟩ = some (.slice a L.length c) := (hB1.cell (p := ⟨pb, 0, none⟩) hlt).trans c0
  clear hb1 ho1
  go_wp2
  go_loopw [3, 18] (fun s i wr => ∃ k : Nat, i = .int .i64 k ∧ k ≤ L.length ∧ Own wr w.heap.size s (nb L.length ++ tbs (L.take k)) ∧ Below w.heap.size w wr) (fun _ i _ => L.length - (intOf i).toNat)
  case atStart => exact ⟨0, rfl, Nat.zero_le _, by simpa [tbs] using ho2, hB1⟩
  case round =>
    clear ho2 hB1 d0
    obtain ⟨k, rfl, hk, ho, hB⟩ := hrel
    by_cases hlt2 : k < L.length
    · obtain ⟨g, rfl, hc⟩ := hf (by omega)
      have hcell : wr.cell? ⟨g, k, none⟩ = some (.string L[k]) := (hB.cell (p := ⟨g, k, none⟩) (hbl g rfl)).trans (hc k hlt2)
      have hsk := hs L[k] (List.getElem_mem hlt2)
      have hU := Lib.hid (tbs_snoc L k hlt2)
      have hT1 := tbs_take L k
      have hT2 := tb_len hsk
      have hl1 : (nb L.length ++ tbs (L.take k)).length ≤ 310000 := by rw [List.length_append]; omega
      have hsz := hB.size
      clear hc hf hbl hs
      go_wp2_with fail
      refine (text_any (.slice none 0 0) [] L[k] _ (rd_nil _) (.inl rfl) (by simp) hsk).mono ?_
      rintro e w2 ⟨v2, rfl, ho2, hb2⟩
      rw [List.nil_append] at ho2
      have ho3 : Own w2 w.heap.size _ _ := ho.below hb2 (fun g hg => (ho.lt g hg).2)
      have hB2 : Below w.heap.size w w2 := hB.trans (hb2.mono hsz)
      have hsz2 := hB2.size
      have hv2 := ho2.rd
      have hlen2 : (nb L[k].size ++ sb L[k]).length ≤ 10010 := by have := hT2; unfold tb at this; omega
      go_wp2_with (at_builtin; refine wp_app rfl _ _ rfl w.heap.size _ _ rfl ho3 _ _ rfl hv2 (by omega) (by omega) ?_)
      intro v4 w4 ho4 hg4 _
      have hB4 : Below w.heap.size w w4 := hB2.grown hg4 hsz2 (fun k hk => (ho3.lt k hk).1)
      have HO := Lib.hid ho4
      clear ho4 ho3 ho2 ho hg4 hv2
      go_wp2
      go_roundw
      case rel => exact ⟨k + 1, by go_num, by omega, by rw [hU.out]; exact HO.out, hB4⟩
      case measure => simp [intOf]; omega
    · go_wp2
      go_ret
      exact ⟨_, rfl, by rw [List.take_of_length_le (by omega)] at ho; exact ho, hB⟩

end Go.Proofs.Ytnpbhpidciiciaa
