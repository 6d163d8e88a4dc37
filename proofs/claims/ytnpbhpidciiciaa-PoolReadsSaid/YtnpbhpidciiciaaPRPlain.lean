/- Which texts any bytes tell, one behind the other; a Pool's bytes tell its texts. -/
import Derived.Test.YtnpbhpidciiciaaPBytes
import Derived.Test.YtnpbhpidciiciaaRefRd4
namespace Go.Proofs.Ytnpbhpidciiciaa
open Go.RowKit Go.Maps

/-- at most n texts from where k stands: the texts, where it stands then, the error -/
def textsR (bs : List UInt8) : Nat → Nat → Nat → List ByteArray × Nat × Nat
  | 0, k, e => ([], k, e)
  | n + 1, k, e =>
    if e = 0 then (tx (textR bs k e 1000).1 :: (textsR bs n (textR bs k e 1000).2.1 (textR bs k e 1000).2.2).1, (textsR bs n (textR bs k e 1000).2.1 (textR bs k e 1000).2.2).2)
    else ([], k, e)

def poolR (bs : List UInt8) (k e : Nat) : List ByteArray × Nat × Nat := textsR bs (numR bs k e 10000).1 (numR bs k e 10000).2.1 (numR bs k e 10000).2.2

theorem textsR_stop {bs : List UInt8} {n k e : Nat} (he : e ≠ 0) : textsR bs n k e = ([], k, e) := by
  cases n with
  | zero => rfl
  | succ n => rw [textsR, if_neg he]

theorem textsR_more {bs : List UInt8} {n k k' e' : Nat} {l : List UInt8} (h : textR bs k 0 1000 = (l, k', e')) : textsR bs (n + 1) k 0 = (tx l :: (textsR bs n k' e').1, (textsR bs n k' e').2) := by
  rw [textsR, if_pos rfl, h]

theorem poolR_num {bs : List UInt8} {k e n k' e' : Nat} (h : numR bs k e 10000 = (n, k', e')) : poolR bs k e = textsR bs n k' e' := by
  unfold poolR
  rw [h]

theorem textR_le {bs l : List UInt8} {k e m k' e' : Nat} (hk : k ≤ bs.length) (he : e < 100) (h : textR bs k e m = (l, k', e')) : l.length ≤ m ∧ e' < 100 := by
  rcases hN : numR bs k e m with ⟨v, k1, e1⟩
  have hf := numR_le hk he hN
  rw [textR_num hN] at h
  by_cases h0 : e1 = 0
  · rw [if_pos h0] at h
    by_cases h1 : bs.length - k1 < v
    · rw [if_pos h1] at h
      simp only [Prod.mk.injEq] at h
      obtain ⟨rfl, _, rfl⟩ := h
      exact ⟨by simp, by decide⟩
    · rw [if_neg h1] at h
      simp only [Prod.mk.injEq] at h
      obtain ⟨rfl, _, rfl⟩ := h
      rw [List.length_take]
      exact ⟨by omega, by decide⟩
  · rw [if_neg h0] at h
    simp only [Prod.mk.injEq] at h
    obtain ⟨rfl, _, rfl⟩ := h
    exact ⟨by simp, hf.2.2⟩

/-- what Num told ahead of a Pool's texts -/
theorem textsR_back (bs r : List UInt8) : ∀ (L : List ByteArray) (k : Nat), bs.drop k = tbs L ++ r → (∀ s ∈ L, s.size ≤ 1000) → textsR bs L.length k 0 = (L, k + (tbs L).length, 0)
  | [], k, _, _ => rfl
  | s :: L, k, hd, hs => by
    have h1 := hs s (by simp)
    rw [tbs_cons] at hd
    have hd2 : bs.drop k = nb (sb s).length ++ (sb s ++ (tbs L ++ r)) := by
      rw [hd, tb, sb_len, List.append_assoc, List.append_assoc]
    have ht := textR_nb (m := 1000) hd2 (by rw [sb_len]; omega)
    rw [if_neg (by rw [sb_len]; omega)] at ht
    rw [List.length_cons, textsR_more ht]
    have hd3 : bs.drop (k + (nb (sb s).length).length + (sb s).length) = tbs L ++ r := by
      rw [← List.drop_drop, ← List.drop_drop, hd2, List.drop_left, List.drop_left]
    rw [textsR_back bs r L _ hd3 (fun x hx => hs x (by simp [hx]))]
    have e : k + (nb (sb s).length).length + (sb s).length + (tbs L).length = k + (tbs (s :: L)).length := by
      rw [tbs_cons, tb, List.length_append, List.length_append, sb_len]
      omega
    rw [tx_sb, e]

theorem poolR_back {bs r : List UInt8} {L : List ByteArray} {k : Nat} (hd : bs.drop k = poolB L ++ r) (hL : L.length ≤ 10000) (hs : ∀ s ∈ L, s.size ≤ 1000) : poolR bs k 0 = (L, k + (poolB L).length, 0) := by
  unfold poolB at hd
  rw [List.append_assoc] at hd
  have hn := numR_nb (m := 10000) hd (by omega)
  rw [if_neg (by omega)] at hn
  rw [poolR_num hn]
  have hd2 : bs.drop (k + (nb L.length).length) = tbs L ++ r := by rw [← List.drop_drop, hd, List.drop_left]
  rw [textsR_back bs r L _ hd2 hs]
  unfold poolB
  rw [List.length_append, Nat.add_assoc]

theorem poolR_many {bs r : List UInt8} {n : Nat} {k : Nat} (hd : bs.drop k = nb n ++ r) (hn : 10000 < n) (hn2 : n ≤ 1000000) : poolR bs k 0 = ([], k, 22) := by
  have hn := numR_nb (m := 10000) hd (by omega)
  rw [if_pos (by omega)] at hn
  rw [poolR_num hn]
  rfl

theorem poolR_long {bs r : List UInt8} {s : ByteArray} (hd : bs = nb 1 ++ (tb s ++ r)) (hs : 1000 < s.size) (hs2 : s.size ≤ 1000000) : poolR bs 0 0 = ([tx []], (nb 1).length, 22) := by
  have hd0 : bs.drop 0 = nb 1 ++ (tb s ++ r) := hd
  have hn := numR_nb (m := 10000) hd0 (by omega)
  rw [if_neg (by omega)] at hn
  rw [poolR_num hn]
  have hd2 : bs.drop (0 + (nb 1).length) = nb (sb s).length ++ (sb s ++ r) := by
    rw [Nat.zero_add, hd, List.drop_left, tb, sb_len, List.append_assoc]
  have ht := textR_nb (m := 1000) hd2 (by rw [sb_len]; omega)
  rw [if_pos (by rw [sb_len]; omega)] at ht
  rw [textsR_more ht, textsR_stop (by decide), Nat.zero_add]

end Go.Proofs.Ytnpbhpidciiciaa
