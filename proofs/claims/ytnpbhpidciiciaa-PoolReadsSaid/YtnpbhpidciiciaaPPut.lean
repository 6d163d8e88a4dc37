/- What New, Len, At, add, Put of the program's Pool answer. -/
import Derived.Test.YtnpbhpidciiciaaPBase
namespace Go.Proofs.Ytnpbhpidciiciaa
open Go.RowKit Go.Maps

/-- a Pool has gone on: nothing but its own blocks, and new ones, has changed -/
def On (w w' : World) (B pb mb : Nat) (sl sl' : Value) (L' : List ByteArray) : Prop :=
  Pl w' B pb mb sl' L' ∧ Kpt (fp pb mb sl) w w' ∧ ∀ g, sl'.ownBlock = some g → sl.ownBlock = some g ∨ w.heap.size ≤ g

theorem On.fresh {w w' : World} {B pb mb : Nat} {sl sl' : Value} {L' : List ByteArray} (h : On w w' B pb mb sl sl' L') : ∀ x ∈ fp pb mb sl', x ∈ fp pb mb sl ∨ w.heap.size ≤ x := by
  intro x hx
  rcases mem_fp.1 hx with e | e | e
  · exact .inl (mem_fp.2 (.inl e))
  · exact .inl (mem_fp.2 (.inr (.inl e)))
  · exact (h.2.2 x e).imp (fun e => mem_fp.2 (.inr (.inr e))) id

set_option maxHeartbeats 400000 in
set_option maxRecDepth 100000 in
theorem pnew_any (w : World) : Calls Try.prog 9 #[] w fun e w' => ∃ pb mb, e = .returned (.pointer (some ⟨pb, 0, none⟩)) ∧ Pl w' w.heap.size pb mb (.slice none 0 0) [] ∧ Below w.heap.size w w' := by
  have hmm := @run_makeMap Try.prog
  go_enter Try.func9, Try.ntmps9
  go_wp2
  go_ret
  refine ⟨_, w.heap.size, rfl, ⟨?_, Nat.le_refl _, ?_, OwnS.nil _ _, (fun h => by cases h), ?_⟩, ((Below.refl _ w).alloc (Nat.le_refl _) _).alloc (by simp) _⟩
  · simp
  · have := heap_alloc_new (w.alloc (.map #[] 0)) (.cells #[Value.slice none 0 0, Value.map (some w.heap.size)] 58)
    simpa using this
  · exact (Mp.made w).kpt (Kpt.alloc [] _ _) (by simp)

set_option maxHeartbeats 400000 in
set_option maxRecDepth 100000 in
theorem plen_any (B pb mb : Nat) (sl : Value) (L : List ByteArray) (w : World) (h : Pl w B pb mb sl L) :
    Calls Try.prog 12 #[.pointer (some ⟨pb, 0, none⟩)] w fun e w' => e = .returned (.int .i64 L.length) ∧ w = w' := by
  obtain ⟨hlt, c0, _, _⟩ := h.cells
  obtain ⟨a, c, rfl, h1, h2, _⟩ := h.2.2.2.1.form
  go_enter Try.func12, Try.ntmps12
  go_wp2
  go_ret
  exact ⟨rfl, rfl⟩

set_option maxHeartbeats 400000 in
set_option maxRecDepth 100000 in
theorem pat_in (B pb mb : Nat) (sl : Value) (L : List ByteArray) (i : Nat) (w : World) (h : Pl w B pb mb sl L) (hi : i < L.length) :
    Calls Try.prog 13 #[.pointer (some ⟨pb, 0, none⟩), .int .i64 i] w fun e w' => e = .returned (.tuple #[.string L[i], .bool true]) ∧ w = w' := by
  obtain ⟨hlt, c0, _, _⟩ := h.cells
  obtain ⟨a, c, rfl, h1, h2, hf⟩ := h.2.2.2.1.form
  obtain ⟨g, rfl, hc⟩ := hf (by omega)
  have ci := hc i hi
  unfold maxLen at h2
  go_enter Try.func13, Try.ntmps13
  go_wp2
  go_ret2
  exact ⟨rfl, rfl⟩

set_option maxHeartbeats 400000 in
set_option maxRecDepth 100000 in
theorem pat_out (B pb mb : Nat) (sl : Value) (L : List ByteArray) (i : Int) (w : World) (h : Pl w B pb mb sl L) (hi : i < 0 ∨ (L.length : Int) ≤ i) :
    Calls Try.prog 13 #[.pointer (some ⟨pb, 0, none⟩), .int .i64 i] w fun e w' => e = .returned (.tuple #[.string ⟨#[]⟩, .bool false]) ∧ w = w' := by
  obtain ⟨hlt, c0, _, _⟩ := h.cells
  obtain ⟨a, c, rfl, h1, h2, _⟩ := h.2.2.2.1.form
  by_cases hn : i < 0
  all_goals
    go_enter Try.func13, Try.ntmps13
    go_wp2
    go_ret2
    exact ⟨rfl, rfl⟩

/-- behind the append: the Pool's first field is set -/
theorem add_facts {w w1 : World} {B pb mb : Nat} {sl v' : Value} {L : List ByteArray} {s : ByteArray} {o : Obj} (h : Pl w B pb mb sl L) (ho : OwnS w1 B v' (L ++ [s])) (hg : (w.alloc o).grownBy w1 sl.ownBlock)
    (hl : v'.ownBlock = sl.ownBlock ∨ v'.ownBlock = some (w.heap.size + 1)) :
    w1.cell? ⟨pb, 0, none⟩ = some sl ∧ w1.frozen? ⟨pb, 0, none⟩ = false ∧ w1.cell? ⟨pb, 1, none⟩ = some (.map (some mb)) ∧ (w1.setCell ⟨pb, 0, none⟩ v').cell? ⟨pb, 1, none⟩ = some (.map (some mb)) ∧ Mp (w1.setCell ⟨pb, 0, none⟩ v') mb L.length L ∧
    ∀ w3, Mp w3 mb (L.length + 1) (L ++ [s]) → (w1.setCell ⟨pb, 0, none⟩ v').grownBy w3 (some mb) → On w w3 B pb mb sl v' (L ++ [s]) := by
  have hlt := h.lt
  obtain ⟨h1, h2, hp, hs, hn, hm⟩ := id h
  obtain ⟨es, cl, hmb⟩ := hm.map
  have hpl := (hlt pb (mem_fp.2 (.inl rfl))).2
  have hml := (hlt mb (mem_fp.2 (.inr (.inl rfl)))).2
  have hne : mb ≠ pb := by
    rintro rfl
    rw [hp] at hmb
    cases hmb
  have hsm : sl.ownBlock ≠ some mb := by
    intro e
    rcases hs.2 with ⟨rfl, _⟩ | ⟨g, cap, cur, rfl, _, hg, _⟩
    · cases e
    · simp only [Value.ownBlock, Option.some.injEq] at e
      subst e
      rw [hg] at hmb
      cases hmb
  have hvb : v'.ownBlock ≠ some pb := by
    rcases hl with e | e
    · rw [e]; exact hn
    · rw [e]; simp only [ne_eq, Option.some.injEq]; omega
  have hvm : v'.ownBlock ≠ some mb := by
    rcases hl with e | e
    · rw [e]; exact hsm
    · rw [e]; simp only [ne_eq, Option.some.injEq]; omega
  have k1 : Kpt (fp pb mb sl) w w1 := (Kpt.alloc _ w o).trans (.of_grown (S := fp pb mb sl) hg (fun g e => .inl (mem_fp.2 (.inr (.inr e))))) (fun x hx => .inl hx)
  have k1' : Kpt sl.ownBlock.toList w w1 := (Kpt.alloc _ w o).trans (.of_grown (S := sl.ownBlock.toList) hg (fun g e => .inl (by rw [e]; simp))) (fun x hx => .inl hx)
  have hp1 : w1.heap[pb]? = some (.cells #[sl, .map (some mb)] 58 (0, 0)) := by
    rw [k1'.2 pb hpl (by simpa using hn)]
    exact hp
  have hm1 : Mp w1 mb L.length L := hm.kpt k1' (by simpa using hsm)
  have k2 : Kpt [pb] w1 (w1.setCell ⟨pb, 0, none⟩ v') := Kpt.set _ _ _ _ _ (by simp)
  have hp2 : (w1.setCell ⟨pb, 0, none⟩ v').heap[pb]? = some (.cells #[v', .map (some mb)] 58 (0, 0)) := by
    rw [heap_setCell_same w1 pb 0 _ _ _ hp1]; rfl
  refine ⟨?_, ?_, ?_, ?_, hm1.kpt k2 (by simpa using hne), fun w3 hm3 hg3 => ?_⟩
  · simp [World.cell?, hp1]
  · simp [World.frozen?, hp1]
  · simp [World.cell?, hp1]
  · simp [World.cell?, hp2]
  · have k3 : Kpt [mb] (w1.setCell ⟨pb, 0, none⟩ v') w3 := .of_grown hg3 (fun g e => by cases e; exact .inl (by simp))
    refine ⟨⟨h1, h2, ?_, (ho.kpt k2 (fun g e => ?_)).kpt k3 (fun g e => ?_), hvb, by rw [List.length_append]; exact hm3⟩, (k1.trans k2 (fun x hx => .inl ?_)).trans k3 (fun x hx => .inl ?_), fun g e => ?_⟩
    · rw [k3.2 pb (by have := k1.size; have := k2.size; omega) (by simpa using hne.symm)]
      exact hp2
    · rw [e] at hvb; simpa using hvb
    · rw [e] at hvm; simpa using hvm
    · rw [List.mem_singleton.1 hx]; exact mem_fp.2 (.inl rfl)
    · rw [List.mem_singleton.1 hx]; exact mem_fp.2 (.inr (.inl rfl))
    · rcases hl with h | h
      · exact .inl (by rw [← h]; exact e)
      · rw [h] at e
        cases e
        exact .inr (by omega)

theorem Mp.more {w : World} {mb : Nat} {L : List ByteArray} {s : ByteArray} (h : Mp w mb L.length L) (hs : s ∈ L) : Mp w mb (L.length + 1) (L ++ [s]) := by
  obtain ⟨D, h1, h2⟩ := h
  exact ⟨D, h1.mono (by simp), h2.more hs⟩

set_option maxHeartbeats 1000000 in
set_option maxRecDepth 100000 in
theorem padd_any (B pb mb : Nat) (sl : Value) (L : List ByteArray) (s : ByteArray) (w : World) (h : Pl w B pb mb sl L) (hB : B ≤ w.heap.size) (hL : L.length ≤ 100000) (hs : s.size ≤ 1000000) :
    Calls Try.prog 26 #[.pointer (some ⟨pb, 0, none⟩), .string s] w fun e w' => ∃ sl', e = .returned (.int .i64 L.length) ∧ On w w' B pb mb sl sl' (L ++ [s]) := by
  obtain ⟨hlt, c0, c1, f0⟩ := h.cells
  have ho := h.2.2.2.1
  obtain ⟨a, c, hsl, h1, h2, _⟩ := ho.form
  have hsm : s.size ≤ maxLen := by unfold maxLen; omega
  subst hsl
  by_cases hin : s ∈ L
  · have hd : decide (s ∈ L) = true := decide_eq_true hin
    have hp : (if s ∈ L then pos L s else 0) = pos L s := if_pos hin
    go_enter Try.func26, Try.ntmps26
    go_wp2_with (at_builtin; refine wp_appS rfl _ _ rfl B _ L rfl (ho.alloc _) w.heap.size 1 s rfl ?d1 ?d2 ?d3 ?_)
    case d1 => simp
    case d2 => omega
    case d3 => simp; omega
    intro v' w1 ho1 hg1 hl1
    obtain ⟨a', n', c', hv'⟩ := ho1.slice
    subst hv'
    obtain ⟨d0, g0, d1, d2, hm1, hfin⟩ := add_facts h ho1 hg1 hl1
    have HF := Lib.hid (hfin _ (hm1.more hin) (grown_refl _ _))
    clear hfin ho1 hg1 hl1
    go_wp2_with (at_lookup; refine wp_look rfl _ _ rfl mb L.length L rfl hm1 s hsm rfl true hd _ hp ?_)
    go_wp2
    go_ret
    exact ⟨_, rfl, HF.out⟩
  · have hd : decide (s ∈ L) = false := decide_eq_false hin
    have hp : (if s ∈ L then pos L s else 0) = 0 := if_neg hin
    go_enter Try.func26, Try.ntmps26
    go_wp2_with (at_builtin; refine wp_appS rfl _ _ rfl B _ L rfl (ho.alloc _) w.heap.size 1 s rfl ?d1 ?d2 ?d3 ?_)
    case d1 => simp
    case d2 => omega
    case d3 => simp; omega
    intro v' w1 ho1 hg1 hl1
    obtain ⟨a', n', c', hv'⟩ := ho1.slice
    subst hv'
    obtain ⟨d0, g0, d1, d2, hm1, hfin⟩ := add_facts h ho1 hg1 hl1
    have HF := Lib.hid hfin
    clear hfin ho1 hg1 hl1
    go_wp2_with first | (at_lookup; refine wp_look rfl _ _ rfl mb L.length L rfl hm1 s hsm rfl false hd _ hp ?_) | (at_mapUpdate; refine wp_store rfl _ _ _ rfl mb L rfl hm1 s hsm rfl rfl hin (by omega) ?_)
    intro w3 hm3 hg3
    have HE := Lib.hid (HF.out w3 hm3 hg3)
    clear HF
    go_wp2
    go_ret
    exact ⟨_, rfl, HE.out⟩

set_option maxHeartbeats 1000000 in
set_option maxRecDepth 100000 in
theorem clone_s (s : ByteArray) (w : World) (hs : s.size ≤ 1000000) :
    Calls Try.prog 27 #[.string s] w fun e w' => e = .returned (.string s) ∧ Below w.heap.size w w' := by
  go_enter Try.func27, Try.ntmps27
  go_wp2_with fail
  refine (Try.stringslite_Clone s _ (by omega)).mono ?_
  rintro e w1 ⟨rfl, hb⟩
  go_wp2
  go_ret
  exact ⟨rfl, hb⟩

set_option maxHeartbeats 1000000 in
set_option maxRecDepth 100000 in
theorem pput_in (B pb mb : Nat) (sl : Value) (L : List ByteArray) (s : ByteArray) (w : World) (h : Pl w B pb mb sl L) (hs : s.size ≤ 1000000) (hin : s ∈ L) :
    Calls Try.prog 10 #[.pointer (some ⟨pb, 0, none⟩), .string s] w fun e w' => e = .returned (.int .i64 (pos L s)) ∧ w = w' := by
  obtain ⟨hlt, c0, c1, f0⟩ := h.cells
  have hm := h.2.2.2.2.2
  have hsm : s.size ≤ maxLen := by unfold maxLen; omega
  have hd : decide (s ∈ L) = true := decide_eq_true hin
  have hp : (if s ∈ L then pos L s else 0) = pos L s := if_pos hin
  go_enter Try.func10, Try.ntmps10
  go_wp2_with (at_lookup; refine wp_look rfl _ _ rfl mb L.length L rfl hm s hsm rfl true hd _ hp ?_)
  go_wp2
  go_ret
  exact ⟨rfl, rfl⟩

set_option maxHeartbeats 1000000 in
set_option maxRecDepth 100000 in
theorem pput_any (B pb mb : Nat) (sl : Value) (L : List ByteArray) (s : ByteArray) (w : World) (h : Pl w B pb mb sl L) (hB : B ≤ w.heap.size) (hL : L.length ≤ 100000) (hs : s.size ≤ 1000000) :
    Calls Try.prog 10 #[.pointer (some ⟨pb, 0, none⟩), .string s] w fun e w' => ∃ sl', e = .returned (.int .i64 (pos L s)) ∧ On w w' B pb mb sl sl' (putL L s) := by
  obtain ⟨hlt, c0, c1, f0⟩ := h.cells
  have hm := h.2.2.2.2.2
  have hsm : s.size ≤ maxLen := by unfold maxLen; omega
  by_cases hin : s ∈ L
  · refine (pput_in B pb mb sl L s w h hs hin).mono ?_
    rintro e w' ⟨rfl, rfl⟩
    exact ⟨sl, rfl, by rw [putL_has hin]; exact h, Kpt.refl _ _, fun g e => .inl e⟩
  · have hd : decide (s ∈ L) = false := decide_eq_false hin
    have hp : (if s ∈ L then pos L s else 0) = 0 := if_neg hin
    go_enter Try.func10, Try.ntmps10
    go_wp2_with (at_lookup; refine wp_look rfl _ _ rfl mb L.length L rfl hm s hsm rfl false hd _ hp ?_)
    go_wp2_with fail
    refine (clone_s s _ hs).mono ?_
    rintro e w1 ⟨rfl, hb⟩
    have k1 : Kpt [] w w1 := .of_below hb
    go_wp2_with fail
    refine (padd_any B pb mb sl L s _ (h.kpt k1 (fun x _ => by simp)) (Nat.le_trans hB k1.size) hL hs).mono ?_
    rintro e w2 ⟨sl', rfl, hp2, hk2, hf2⟩
    go_wp2
    go_ret
    refine ⟨sl', by rw [pos_not hin]; rfl, by unfold putL; rw [if_neg hin]; exact hp2, ?_, fun g e => (hf2 g e).imp id (fun h => Nat.le_trans k1.size h)⟩
    exact (k1.mono (S' := fp pb mb sl) (fun x hx => by simp at hx)).trans hk2 (fun x hx => .inl hx)

end Go.Proofs.Ytnpbhpidciiciaa
