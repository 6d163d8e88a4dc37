/- What Put and Bytes of the answers' Pool come to. -/
import Derived.Test.YtnpbhpidciiciaaPBytes
import Derived.Test.YtnpbhpidciiciaaRef2
namespace Go.Proofs.Ytnpbhpidciiciaa
open Go.RowKit Go.Maps

/-- the answers' Pool has gone on -/
def OnF (w w' : World) (B qb : Nat) (sl sl' : Value) (L' : List ByteArray) : Prop :=
  Rp w' B qb sl' L' ∧ Kpt (fq qb sl) w w' ∧ ∀ g, sl'.ownBlock = some g → sl.ownBlock = some g ∨ w.heap.size ≤ g

theorem OnF.fresh {w w' : World} {B qb : Nat} {sl sl' : Value} {L' : List ByteArray} (h : OnF w w' B qb sl sl' L') : ∀ x ∈ fq qb sl', x ∈ fq qb sl ∨ w.heap.size ≤ x := by
  intro x hx
  rcases mem_fq.1 hx with e | e
  · exact .inl (mem_fq.2 (.inl e))
  · exact (h.2.2 x e).imp (fun e => mem_fq.2 (.inr e)) id

theorem rapp_facts {w w1 : World} {B qb : Nat} {sl v' : Value} {L : List ByteArray} {s : ByteArray} {o : Obj} (h : Rp w B qb sl L) (ho : OwnS w1 B v' (L ++ [s])) (hg : (w.alloc o).grownBy w1 sl.ownBlock)
    (hl : v'.ownBlock = sl.ownBlock ∨ v'.ownBlock = some (w.heap.size + 1)) :
    w1.cell? ⟨qb, 0, none⟩ = some sl ∧ w1.frozen? ⟨qb, 0, none⟩ = false ∧ (w1.setCell ⟨qb, 0, none⟩ v').cell? ⟨qb, 0, none⟩ = some v' ∧ OnF w (w1.setCell ⟨qb, 0, none⟩ v') B qb sl v' (L ++ [s]) := by
  have hlt := h.lt
  obtain ⟨h1, hp, hs, hn⟩ := id h
  have hpl := (hlt qb (mem_fq.2 (.inl rfl))).2
  have hvb : v'.ownBlock ≠ some qb := by
    rcases hl with e | e
    · rw [e]; exact hn
    · rw [e]; simp only [ne_eq, Option.some.injEq]; omega
  have k1 : Kpt (fq qb sl) w w1 := (Kpt.alloc _ w o).trans (.of_grown (S := fq qb sl) hg (fun g e => .inl (mem_fq.2 (.inr e)))) (fun x hx => .inl hx)
  have k1' : Kpt sl.ownBlock.toList w w1 := (Kpt.alloc _ w o).trans (.of_grown (S := sl.ownBlock.toList) hg (fun g e => .inl (by rw [e]; simp))) (fun x hx => .inl hx)
  have hp1 : w1.heap[qb]? = some (.cells #[sl] 29 (0, 0)) := by
    rw [k1'.2 qb hpl (by simpa using hn)]
    exact hp
  have k2 : Kpt [qb] w1 (w1.setCell ⟨qb, 0, none⟩ v') := Kpt.set _ _ _ _ _ (by simp)
  have hp2 : (w1.setCell ⟨qb, 0, none⟩ v').heap[qb]? = some (.cells #[v'] 29 (0, 0)) := by
    rw [heap_setCell_same w1 qb 0 _ _ _ hp1]; rfl
  refine ⟨?_, ?_, ?_, ⟨h1, hp2, ho.kpt k2 (fun g e => ?_), hvb⟩, k1.trans k2 (fun x hx => .inl ?_), fun g e => ?_⟩
  · simp [World.cell?, hp1]
  · simp [World.frozen?, hp1]
  · simp [World.cell?, hp2]
  · rw [e] at hvb; simpa using hvb
  · rw [List.mem_singleton.1 hx]; exact mem_fq.2 (.inl rfl)
  · rcases hl with h | h
    · exact .inl (by rw [← h]; exact e)
    · rw [h] at e
      cases e
      exact .inr (by omega)

theorem pos_first {L : List ByteArray} {s : ByteArray} {k : Nat} (hk : k < L.length) (h : ∀ j (hj : j < L.length), j < k → L[j] ≠ s) (he : L[k] = s) : pos L s = k := by
  unfold pos
  rw [List.findIdx_eq hk]
  refine ⟨by simp [he], fun j hj => ?_⟩
  simpa using h j (by omega) hj

set_option maxHeartbeats 1000000 in
set_option maxRecDepth 100000 in
theorem rput_in (B qb : Nat) (sl : Value) (L : List ByteArray) (s : ByteArray) (w : World) (h : Rp w B qb sl L) (hL : L.length ≤ 100000) (hin : s ∈ L) :
    Calls Try.prog 11 #[.pointer (some ⟨qb, 0, none⟩), .string s] w fun e w' => e = .returned (.int .i64 (pos L s)) ∧ w = w' := by
  obtain ⟨hlt, c0, f0⟩ := h.cells
  have ho := h.2.2.1
  obtain ⟨a, c, hsl, h1, h2, hf⟩ := ho.form
  subst hsl
  unfold maxLen at h2
  clear h
  have HIN := Lib.hid hin
  clear hin
  go_enter Try.func11, Try.ntmps11
  go_wp2
  go_loop [5] (fun i => ∃ k : Nat, i = .int .i64 k ∧ k ≤ L.length ∧ Hid (∀ j (hj : j < L.length), j < k → L[j] ≠ s)) (fun i => L.length - (intOf i).toNat)
  case atStart => exact ⟨0, rfl, Nat.zero_le _, Lib.hid (fun j _ h => by omega)⟩
  case round =>
    obtain ⟨k, rfl, hk, HA⟩ := hrel
    have hlt2 : k < L.length := by
      obtain ⟨j, hj, e⟩ := List.mem_iff_getElem.1 HIN.out
      by_cases h : k < L.length
      · exact h
      · exact absurd e (HA.out j hj (by omega))
    obtain ⟨g, rfl, hc⟩ := hf (by omega)
    have hcell := hc k hlt2
    clear hc hf
    by_cases he : L[k] = s
    · have HP := Lib.hid (pos_first hlt2 HA.out he)
      have hb := txt_eq he
      go_wp2
      go_ret
      exact ⟨by rw [HP.out]; rfl, rfl⟩
    · have HN : Hid (∀ j (hj : j < L.length), j < k + 1 → L[j] ≠ s) := Lib.hid (fun j hj h => by
        by_cases e : j = k
        · subst e; exact he
        · exact HA.out j hj (by omega))
      have hb := txt_ne he
      go_wp2
      go_round
      case rel => exact ⟨k + 1, by go_num, by omega, HN⟩
      case measure => simp [intOf]; omega

set_option maxHeartbeats 1000000 in
set_option maxRecDepth 100000 in
theorem rput_any (B qb : Nat) (sl : Value) (L : List ByteArray) (s : ByteArray) (w : World) (h : Rp w B qb sl L) (hB : B ≤ w.heap.size) (hL : L.length ≤ 100000) :
    Calls Try.prog 11 #[.pointer (some ⟨qb, 0, none⟩), .string s] w fun e w' => ∃ sl', e = .returned (.int .i64 (pos L s)) ∧ OnF w w' B qb sl sl' (putL L s) := by
  obtain ⟨hlt, c0, f0⟩ := h.cells
  have ho := h.2.2.1
  obtain ⟨a, c, hsl, h1, h2, hf⟩ := ho.form
  have H := Lib.hid h
  subst hsl
  unfold maxLen at h2
  clear h
  go_enter Try.func11, Try.ntmps11
  go_wp2
  go_loop [5] (fun i => ∃ k : Nat, i = .int .i64 k ∧ k ≤ L.length ∧ Hid (∀ j (hj : j < L.length), j < k → L[j] ≠ s)) (fun i => L.length - (intOf i).toNat)
  case atStart => exact ⟨0, rfl, Nat.zero_le _, Lib.hid (fun j _ h => by omega)⟩
  case round =>
    obtain ⟨k, rfl, hk, HA⟩ := hrel
    by_cases hlt2 : k < L.length
    · obtain ⟨g, rfl, hc⟩ := hf (by omega)
      have hcell := hc k hlt2
      clear hc hf
      by_cases he : L[k] = s
      · have HP := Lib.hid (pos_first hlt2 HA.out he)
        have HM : Hid (s ∈ L) := Lib.hid (by rw [← he]; exact List.getElem_mem hlt2)
        have hb := txt_eq he
        go_wp2
        go_ret
        exact ⟨by rw [HP.out]; rfl, Value.slice (some ⟨g, 0, none⟩) L.length c, by rw [putL_has HM.out]; exact H.out, Kpt.refl _ _, fun g e => .inl e⟩
      · have HN : Hid (∀ j (hj : j < L.length), j < k + 1 → L[j] ≠ s) := Lib.hid (fun j hj h => by
          by_cases e : j = k
          · subst e; exact he
          · exact HA.out j hj (by omega))
        have hb := txt_ne he
        go_wp2
        go_round
        case rel => exact ⟨k + 1, by go_num, by omega, HN⟩
        case measure => simp [intOf]; omega
    · have HM : Hid (s ∉ L) := Lib.hid (fun hm => by
        obtain ⟨j, hj, e⟩ := List.mem_iff_getElem.1 hm
        exact HA.out j hj (by omega) e)
      clear hf
      go_wp2_with (at_builtin; refine wp_appS rfl _ _ rfl B _ L rfl (ho.alloc _) w.heap.size 1 s rfl (by simp) ?d2 ?d3 ?_)
      case d2 => omega
      case d3 => omega
      intro v' w1 ho1 hg1 hl1
      have hlen := ho1.form
      obtain ⟨a', c', hv', hle, hmx, _⟩ := hlen
      obtain ⟨n', hn'⟩ : ∃ n', n' = (L ++ [s]).length := ⟨_, rfl⟩
      rw [← hn'] at hv'
      have hn'' : n' = L.length + 1 := by rw [hn']; simp
      subst hv'
      obtain ⟨d0, g0, d1, hfin⟩ := rapp_facts H.out ho1 hg1 hl1
      have HF := Lib.hid hfin
      have HN := Lib.hid hn''
      have hnb1 : n' ≤ 100001 := by omega
      have hnb2 : 1 ≤ n' := by omega
      clear hfin ho1 hg1 hl1 hn' hle hmx hn''
      go_wp2
      go_ret
      have e1 := HN.out
      exact ⟨_, by rw [pos_not HM.out]; exact ret_int (by omega), by unfold putL; rw [if_neg HM.out]; exact HF.out⟩

set_option maxHeartbeats 1000000 in
set_option maxRecDepth 100000 in
theorem rbytes_any (B qb : Nat) (sl : Value) (L : List ByteArray) (w : World) (h : Rp w B qb sl L) (hL : L.length ≤ 100000) (hs : ∀ s ∈ L, s.size ≤ 10000) (hT : (tbs L).length ≤ 300000) :
    Calls Try.prog 15 #[.pointer (some ⟨qb, 0, none⟩)] w fun e w' => ∃ v, e = .returned v ∧ Own w' w.heap.size v (poolB L) ∧ Below w.heap.size w w' := by
  obtain ⟨hlt, c0, _⟩ := h.cells
  obtain ⟨a, c, hsl, h1, h2, hf⟩ := h.2.2.1.form
  have hbl := fun g (e : sl.ownBlock = some g) => (h.lt g (mem_fq.2 (.inr e))).2
  have hn10 := nb_len10 (u64_of_le hL (by decide)).out
  subst hsl
  unfold maxLen at h2
  clear h
  go_enter Try.func15, Try.ntmps15
  go_wp2_with fail
  refine (fnum_any (.slice none 0 0) _ [] [(L.length : Int)] _ (rd_nil _) (by simp) (rdI_new1 w _ _ (by omega) (by omega)) (.inr fun g hg => by cases hg; simp) (by simp)).mono ?_
  rintro e w1 ⟨v1, rfl, ho1, hb1⟩
  have hB1 : Below w.heap.size w w1 := ((Below.refl _ w).alloc (Nat.le_refl _) _).trans (hb1.mono (by simp))
  have ho2 : Own w1 w.heap.size v1 (nb L.length) := by
    rw [List.nil_append, nums_len] at ho1
    exact ho1.mono (by simp)
  clear hb1 ho1
  go_wp2
  go_loopw [3, 4] (fun s i wr => ∃ k : Nat, i = .int .i64 k ∧ k ≤ L.length ∧ Own wr w.heap.size s (nb L.length ++ tbs (L.take k)) ∧ Below w.heap.size w wr) (fun _ i _ => L.length - (intOf i).toNat)
  case atStart => exact ⟨0, rfl, Nat.zero_le _, by simpa [tbs] using ho2, hB1⟩
  case round =>
    clear ho2 hB1
    obtain ⟨k, rfl, hk, ho, hB⟩ := hrel
    have d0 : wr.cell? ⟨qb, 0, none⟩ = some (.slice a L.length c) := (hB.cell (p := ⟨qb, 0, none⟩) hlt).trans c0
    by_cases hlt2 : k < L.length
    · obtain ⟨g, rfl, hc⟩ := hf (by omega)
      have hcell : wr.cell? ⟨g, k, none⟩ = some (.string L[k]) := (hB.cell (p := ⟨g, k, none⟩) (hbl g rfl)).trans (hc k hlt2)
      have hsk := hs L[k] (List.getElem_mem hlt2)
      have hU := Lib.hid (tbs_snoc L k hlt2)
      have hT1 := tbs_take L k
      have hl1 : (nb L.length ++ tbs (L.take k)).length ≤ 310000 := by rw [List.length_append]; omega
      have hsz := hB.size
      clear hc hf hbl hs
      go_wp2_with fail
      refine (ftext_any _ _ L[k] _ ho.rd (.inr fun g hg => (ho.lt g hg).2) (by omega) hsk).mono ?_
      rintro e w2 ⟨v2, rfl, ho2, hb2⟩
      have hB2 : Below w.heap.size w w2 := hB.trans (hb2.mono hsz)
      have HO := Lib.hid (ho2.mono hsz)
      clear ho2 ho hb2
      go_wp2
      go_roundw
      case rel => exact ⟨k + 1, by go_num, by omega, by rw [hU.out, ← List.append_assoc]; exact HO.out, hB2⟩
      case measure => simp [intOf]; omega
    · go_wp2
      go_ret
      exact ⟨_, rfl, by rw [List.take_of_length_le (by omega)] at ho; exact ho, hB⟩

end Go.Proofs.Ytnpbhpidciiciaa
