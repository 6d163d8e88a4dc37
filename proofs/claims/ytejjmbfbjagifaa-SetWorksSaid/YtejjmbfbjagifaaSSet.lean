/- What a Set's Has, Add, Len, drop tell; New. -/
import Derived.Test.YtejjmbfbjagifaaSElem
namespace Go.Proofs.Ytejjmbfbjagifaa.S
open Go.RowKit Go.Maps

/-- a Set of int -/
abbrev StI (w : World) (B sb mb : Nat) (L : List Int) : Prop := St 62 3 qI okI w B sb mb L
set_option maxHeartbeats 400000 in
set_option maxRecDepth 100000 in
theorem has_I (B sb mb : Nat) (L : List Int) (x : Int) (w : World) (h : StI w B sb mb L) (hx : okI x) :
    Calls Try.prog 12 #[.pointer (some ⟨sb, 0, none⟩), .int .i64 x] w fun e w' => e = .returned (.bool (hasB L x)) ∧ Below w.heap.size w w' := by
  obtain ⟨c0, c1, f1⟩ := h.cells
  obtain ⟨hlt, _, _⟩ := h.lt
  have hm := h.2.2.2
  obtain ⟨r, hr⟩ : ∃ r, hasB L x = r := ⟨_, rfl⟩
  go_enter Try.func12, Try.ntmps12
  go_wp2_with first | (go_at_call 30; refine (odd_I _ _).mono ?_; rintro e w' ⟨rfl, rfl⟩) | (at_lookup; refine wp_lookQ elI Try.underlying60 (zero0 _) rfl _ _ rfl mb L rfl hm x hx rfl r hr ?_)
  go_ret
  exact ⟨by rw [hr]; rfl, (Below.refl _ w).alloc (Nat.le_refl _) _⟩

set_option maxHeartbeats 400000 in
set_option maxRecDepth 100000 in
theorem len_I (B sb mb : Nat) (L : List Int) (w : World) (h : StI w B sb mb L) (hl : L.length ≤ 1000000) :
    Calls Try.prog 16 #[.pointer (some ⟨sb, 0, none⟩)] w fun e w' => e = .returned (.int .i64 L.length) ∧ Below w.heap.size w w' := by
  obtain ⟨c0, c1, f1⟩ := h.cells
  obtain ⟨hlt, _, _⟩ := h.lt
  have hm := h.2.2.2.lenN Try.underlying60
  go_enter Try.func16, Try.ntmps16
  go_wp2_with fail
  go_quiet (fail)
  go_wp2
  go_ret
  exact ⟨rfl, below_drewN _ _ _⟩

set_option maxHeartbeats 400000 in
set_option maxRecDepth 100000 in
theorem add_I (B sb mb : Nat) (L : List Int) (x : Int) (w : World) (h : StI w B sb mb L) (hx : okI x) (hl : L.length ≤ 100000) :
    Calls Try.prog 13 #[.pointer (some ⟨sb, 0, none⟩), .int .i64 x] w fun e w' => e = .returned (.bool (!hasB L x)) ∧ StI w' B sb mb (addS L x) ∧ Kpt [mb] w w' := by
  by_cases hin : x ∈ L
  · have hr := hasB_in hin
    go_enter Try.func13, Try.ntmps13
    go_wp2_with fail
    refine (has_I B sb mb L x w h hx).mono ?_
    rintro e w1 ⟨rfl, hb⟩
    rw [hr]
    go_wp2
    go_ret
    exact ⟨by rw [hr]; rfl, by rw [addS_in hin]; exact h.bel hb, .of_below hb⟩
  · have hr := hasB_out hin
    go_enter Try.func13, Try.ntmps13
    go_wp2_with fail
    refine (has_I B sb mb L x w h hx).mono ?_
    rintro e w1 ⟨rfl, hb⟩
    rw [hr]
    have h1 : StI w1 B sb mb L := h.bel hb
    have HB := Lib.hid hb
    clear hb
    obtain ⟨c0, c1, f1⟩ := h1.cells
    obtain ⟨hlt, _, hne⟩ := h1.lt
    have hm := h1.2.2.2
    go_wp2_with first | (go_at_call 30; refine (odd_I _ _).mono ?_; rintro e w' ⟨rfl, rfl⟩) | (at_mapUpdate; refine wp_storeQ elI Try.underlying60 rfl _ _ _ rfl mb L rfl hm x hx rfl rfl hin (by omega) ?_)
    intro w2 hm2 hg
    have HM := Lib.hid hm2
    have HG := Lib.hid hg
    clear hm2 hg
    go_wp2
    go_ret
    have k2 : Kpt [mb] w1 w2 := .of_grown HG.out (fun g e => by cases e; exact .inl (by simp))
    exact ⟨by rw [hr]; rfl, by rw [addS_out hin]; exact ⟨h1.1, h1.2.1, k2.block h1.2.2.1 (by simpa using hne), HM.out⟩, Kpt.trans (.of_below HB.out) k2 (fun y hy => .inl hy)⟩

set_option maxHeartbeats 400000 in
set_option maxRecDepth 100000 in
theorem drop_I (B sb mb : Nat) (L : List Int) (x : Int) (w : World) (h : StI w B sb mb L) (hx : okI x) :
    Calls Try.prog 39 #[.pointer (some ⟨sb, 0, none⟩), .int .i64 x] w fun e w' => e = .returned (.tuple #[]) ∧ StI w' B sb mb (delS L x) ∧ Kpt [mb] w w' := by
  obtain ⟨c0, c1, f1⟩ := h.cells
  obtain ⟨hlt, _, hne⟩ := h.lt
  have hm := h.2.2.2
  go_enter Try.func39, Try.ntmps39
  go_wp2_with first | (go_at_call 30; refine (odd_I _ _).mono ?_; rintro e w' ⟨rfl, rfl⟩) | (at_delete; refine wp_delQ elI Try.underlying60 rfl _ _ rfl mb L rfl hm x hx rfl ?_)
  intro w2 hm2 hg
  have HM := Lib.hid hm2
  have HG := Lib.hid hg
  clear hm2 hg
  go_wp2
  go_end0
  have k2 : Kpt [mb] w w2 := .of_grown HG.out (fun g e => by cases e; exact .inl (by simp))
  exact ⟨rfl, ⟨h.1, h.2.1, k2.block h.2.2.1 (by simpa using hne), HM.out⟩, k2⟩

set_option maxHeartbeats 1000000 in
set_option maxRecDepth 100000 in
theorem new_I (v : Value) (xs : List Int) (ok : Nat → Prop) (w : World) (hr : RdC cI ok w v xs) (hx : ∀ x ∈ xs, okI x) (hl : xs.length ≤ 100000) :
    Calls Try.prog 10 #[v] w fun e w' => ∃ sb mb, e = .returned (.pointer (some ⟨sb, 0, none⟩)) ∧ StI w' w.heap.size sb mb (onceL xs) ∧ Below w.heap.size w w' := by
  obtain ⟨p, cap, rfl, h1, h2⟩ := hr.form
  have hmm := run_mapHint _ _ _ Try.underlying60 xs.length
  unfold maxLen at h2
  go_enter Try.func10, Try.ntmps10
  go_wp2
  have hal := heap_alloc_new (w.alloc (.map #[] 0)) (.cells #[.map (some w.heap.size), .slice none 0 0] 62)
  rw [World.size_alloc] at hal
  have H0 : StI ((w.alloc (.map #[] 0)).alloc (.cells #[.map (some w.heap.size), .slice none 0 0] 62)) w.heap.size (w.heap.size + 1) w.heap.size [] := ⟨by omega, by omega, hal, (Mq.made w).kpt (Kpt.alloc [] _ _) (by simp)⟩
  obtain ⟨w0, hw0⟩ : ∃ x, x = (w.alloc (.map #[] 0)).alloc (.cells #[.map (some w.heap.size), .slice none 0 0] 62) := ⟨_, rfl⟩
  rw [← hw0] at H0 ⊢
  have HB : Hid (Below w.heap.size w w0) := Lib.hid (by rw [hw0]; exact ((Below.refl _ w).alloc (Nat.le_refl _) _).alloc (by simp) _)
  have HR := Lib.hid hr
  have H1 := Lib.hid H0
  clear H0 hw0 hal hmm hr
  go_loopw [13] (fun v wr => ∃ i : Nat, v = .int .i64 (i : Int) ∧ i ≤ xs.length ∧ Hid (StI wr w.heap.size (w.heap.size + 1) w.heap.size (onceL (xs.take i))) ∧ Hid (Below w.heap.size w wr)) (fun v _ => xs.length - (intOf v).toNat)
  case atStart => exact ⟨0, rfl, by omega, H1, HB⟩
  case round =>
    clear H1 HB
    obtain ⟨i, rfl, hi, H1, HB⟩ := hrel
    by_cases hlt : i < xs.length
    · have hlt' : (i : Int) < (xs.length : Int) := by omega
      have hne : xs ≠ [] := by rintro rfl; simp at hlt
      obtain ⟨b, off, rfl, hb, hbl, hc⟩ := HR.out.at hne
      have ci : wr.cell? ⟨b, off + i, none⟩ = some (.int .i64 xs[i]) := (HB.out.cell hbl).trans (hc i _ (List.getElem?_eq_getElem hlt))
      have hox := hx _ (List.getElem_mem hlt)
      have HT := Lib.hid (once_take hlt)
      obtain ⟨x, hxx⟩ : ∃ x, xs[i] = x := ⟨_, rfl⟩
      rw [hxx] at ci hox HT
      clear hc hxx
      go_wp2_with fail
      refine (add_I _ _ _ _ x wr H1.out hox (by have := onceL_len (xs.take i); rw [List.length_take] at this; omega)).mono ?_
      rintro e w2 ⟨rfl, hs2, hk2⟩
      have HS := Lib.hid hs2
      have HK := Lib.hid hk2
      clear hs2 hk2 H1 ci
      go_wp2_with fail
      go_roundw
      case rel => exact ⟨i + 1, by go_num, by omega, by rw [HT.out]; exact HS, Lib.hid (HB.out.trans (HK.out.below (fun y hy => by rw [List.mem_singleton.1 hy]; exact Nat.le_refl _) HB.out.size))⟩
      case measure => simp [intOf]; omega
    · obtain rfl : i = xs.length := by omega
      rw [List.take_length] at H1
      clear hlt hi
      go_wp2
      go_ret
      exact ⟨_, _, rfl, H1.out, HB.out⟩
/-- a Set of string -/
abbrev StS (w : World) (B sb mb : Nat) (L : List ByteArray) : Prop := St 59 9 qS okS w B sb mb L
set_option maxHeartbeats 400000 in
set_option maxRecDepth 100000 in
theorem has_S (B sb mb : Nat) (L : List ByteArray) (x : ByteArray) (w : World) (h : StS w B sb mb L) (hx : okS x) :
    Calls Try.prog 20 #[.pointer (some ⟨sb, 0, none⟩), .string x] w fun e w' => e = .returned (.bool (hasB L x)) ∧ Below w.heap.size w w' := by
  obtain ⟨c0, c1, f1⟩ := h.cells
  obtain ⟨hlt, _, _⟩ := h.lt
  have hm := h.2.2.2
  obtain ⟨r, hr⟩ : ∃ r, hasB L x = r := ⟨_, rfl⟩
  go_enter Try.func20, Try.ntmps20
  go_wp2_with first | (go_at_call 36; refine (odd_S _ _).mono ?_; rintro e w' ⟨rfl, rfl⟩) | (at_lookup; refine wp_lookQ elS Try.underlying57 (zero0 _) rfl _ _ rfl mb L rfl hm x hx rfl r hr ?_)
  go_ret
  exact ⟨by rw [hr]; rfl, (Below.refl _ w).alloc (Nat.le_refl _) _⟩

set_option maxHeartbeats 400000 in
set_option maxRecDepth 100000 in
theorem len_S (B sb mb : Nat) (L : List ByteArray) (w : World) (h : StS w B sb mb L) (hl : L.length ≤ 1000000) :
    Calls Try.prog 22 #[.pointer (some ⟨sb, 0, none⟩)] w fun e w' => e = .returned (.int .i64 L.length) ∧ Below w.heap.size w w' := by
  obtain ⟨c0, c1, f1⟩ := h.cells
  obtain ⟨hlt, _, _⟩ := h.lt
  have hm := h.2.2.2.lenN Try.underlying57
  go_enter Try.func22, Try.ntmps22
  go_wp2_with fail
  go_quiet (fail)
  go_wp2
  go_ret
  exact ⟨rfl, below_drewN _ _ _⟩

set_option maxHeartbeats 400000 in
set_option maxRecDepth 100000 in
theorem add_S (B sb mb : Nat) (L : List ByteArray) (x : ByteArray) (w : World) (h : StS w B sb mb L) (hx : okS x) (hl : L.length ≤ 100000) :
    Calls Try.prog 29 #[.pointer (some ⟨sb, 0, none⟩), .string x] w fun e w' => e = .returned (.bool (!hasB L x)) ∧ StS w' B sb mb (addS L x) ∧ Kpt [mb] w w' := by
  by_cases hin : x ∈ L
  · have hr := hasB_in hin
    go_enter Try.func29, Try.ntmps29
    go_wp2_with fail
    refine (has_S B sb mb L x w h hx).mono ?_
    rintro e w1 ⟨rfl, hb⟩
    rw [hr]
    go_wp2
    go_ret
    exact ⟨by rw [hr]; rfl, by rw [addS_in hin]; exact h.bel hb, .of_below hb⟩
  · have hr := hasB_out hin
    go_enter Try.func29, Try.ntmps29
    go_wp2_with fail
    refine (has_S B sb mb L x w h hx).mono ?_
    rintro e w1 ⟨rfl, hb⟩
    rw [hr]
    have h1 : StS w1 B sb mb L := h.bel hb
    have HB := Lib.hid hb
    clear hb
    obtain ⟨c0, c1, f1⟩ := h1.cells
    obtain ⟨hlt, _, hne⟩ := h1.lt
    have hm := h1.2.2.2
    go_wp2_with first | (go_at_call 36; refine (odd_S _ _).mono ?_; rintro e w' ⟨rfl, rfl⟩) | (at_mapUpdate; refine wp_storeQ elS Try.underlying57 rfl _ _ _ rfl mb L rfl hm x hx rfl rfl hin (by omega) ?_)
    intro w2 hm2 hg
    have HM := Lib.hid hm2
    have HG := Lib.hid hg
    clear hm2 hg
    go_wp2
    go_ret
    have k2 : Kpt [mb] w1 w2 := .of_grown HG.out (fun g e => by cases e; exact .inl (by simp))
    exact ⟨by rw [hr]; rfl, by rw [addS_out hin]; exact ⟨h1.1, h1.2.1, k2.block h1.2.2.1 (by simpa using hne), HM.out⟩, Kpt.trans (.of_below HB.out) k2 (fun y hy => .inl hy)⟩

set_option maxHeartbeats 400000 in
set_option maxRecDepth 100000 in
theorem drop_S (B sb mb : Nat) (L : List ByteArray) (x : ByteArray) (w : World) (h : StS w B sb mb L) (hx : okS x) :
    Calls Try.prog 42 #[.pointer (some ⟨sb, 0, none⟩), .string x] w fun e w' => e = .returned (.tuple #[]) ∧ StS w' B sb mb (delS L x) ∧ Kpt [mb] w w' := by
  obtain ⟨c0, c1, f1⟩ := h.cells
  obtain ⟨hlt, _, hne⟩ := h.lt
  have hm := h.2.2.2
  go_enter Try.func42, Try.ntmps42
  go_wp2_with first | (go_at_call 36; refine (odd_S _ _).mono ?_; rintro e w' ⟨rfl, rfl⟩) | (at_delete; refine wp_delQ elS Try.underlying57 rfl _ _ rfl mb L rfl hm x hx rfl ?_)
  intro w2 hm2 hg
  have HM := Lib.hid hm2
  have HG := Lib.hid hg
  clear hm2 hg
  go_wp2
  go_end0
  have k2 : Kpt [mb] w w2 := .of_grown HG.out (fun g e => by cases e; exact .inl (by simp))
  exact ⟨rfl, ⟨h.1, h.2.1, k2.block h.2.2.1 (by simpa using hne), HM.out⟩, k2⟩

set_option maxHeartbeats 1000000 in
set_option maxRecDepth 100000 in
theorem new_S (v : Value) (xs : List ByteArray) (ok : Nat → Prop) (w : World) (hr : RdC cS ok w v xs) (hx : ∀ x ∈ xs, okS x) (hl : xs.length ≤ 100000) :
    Calls Try.prog 9 #[v] w fun e w' => ∃ sb mb, e = .returned (.pointer (some ⟨sb, 0, none⟩)) ∧ StS w' w.heap.size sb mb (onceL xs) ∧ Below w.heap.size w w' := by
  obtain ⟨p, cap, rfl, h1, h2⟩ := hr.form
  have hmm := run_mapHint _ _ _ Try.underlying57 xs.length
  unfold maxLen at h2
  go_enter Try.func9, Try.ntmps9
  go_wp2
  have hal := heap_alloc_new (w.alloc (.map #[] 0)) (.cells #[.map (some w.heap.size), .slice none 0 0] 59)
  rw [World.size_alloc] at hal
  have H0 : StS ((w.alloc (.map #[] 0)).alloc (.cells #[.map (some w.heap.size), .slice none 0 0] 59)) w.heap.size (w.heap.size + 1) w.heap.size [] := ⟨by omega, by omega, hal, (Mq.made w).kpt (Kpt.alloc [] _ _) (by simp)⟩
  obtain ⟨w0, hw0⟩ : ∃ x, x = (w.alloc (.map #[] 0)).alloc (.cells #[.map (some w.heap.size), .slice none 0 0] 59) := ⟨_, rfl⟩
  rw [← hw0] at H0 ⊢
  have HB : Hid (Below w.heap.size w w0) := Lib.hid (by rw [hw0]; exact ((Below.refl _ w).alloc (Nat.le_refl _) _).alloc (by simp) _)
  have HR := Lib.hid hr
  have H1 := Lib.hid H0
  clear H0 hw0 hal hmm hr
  go_loopw [13] (fun v wr => ∃ i : Nat, v = .int .i64 (i : Int) ∧ i ≤ xs.length ∧ Hid (StS wr w.heap.size (w.heap.size + 1) w.heap.size (onceL (xs.take i))) ∧ Hid (Below w.heap.size w wr)) (fun v _ => xs.length - (intOf v).toNat)
  case atStart => exact ⟨0, rfl, by omega, H1, HB⟩
  case round =>
    clear H1 HB
    obtain ⟨i, rfl, hi, H1, HB⟩ := hrel
    by_cases hlt : i < xs.length
    · have hlt' : (i : Int) < (xs.length : Int) := by omega
      have hne : xs ≠ [] := by rintro rfl; simp at hlt
      obtain ⟨b, off, rfl, hb, hbl, hc⟩ := HR.out.at hne
      have ci : wr.cell? ⟨b, off + i, none⟩ = some (.string xs[i]) := (HB.out.cell hbl).trans (hc i _ (List.getElem?_eq_getElem hlt))
      have hox := hx _ (List.getElem_mem hlt)
      have HT := Lib.hid (once_take hlt)
      obtain ⟨x, hxx⟩ : ∃ x, xs[i] = x := ⟨_, rfl⟩
      rw [hxx] at ci hox HT
      clear hc hxx
      go_wp2_with fail
      refine (add_S _ _ _ _ x wr H1.out hox (by have := onceL_len (xs.take i); rw [List.length_take] at this; omega)).mono ?_
      rintro e w2 ⟨rfl, hs2, hk2⟩
      have HS := Lib.hid hs2
      have HK := Lib.hid hk2
      clear hs2 hk2 H1 ci
      go_wp2_with fail
      go_roundw
      case rel => exact ⟨i + 1, by go_num, by omega, by rw [HT.out]; exact HS, Lib.hid (HB.out.trans (HK.out.below (fun y hy => by rw [List.mem_singleton.1 hy]; exact Nat.le_refl _) HB.out.size))⟩
      case measure => simp [intOf]; omega
    · obtain rfl : i = xs.length := by omega
      rw [List.take_length] at H1
      clear hlt hi
      go_wp2
      go_ret
      exact ⟨_, _, rfl, H1.out, HB.out⟩
end Go.Proofs.Ytejjmbfbjagifaa.S
