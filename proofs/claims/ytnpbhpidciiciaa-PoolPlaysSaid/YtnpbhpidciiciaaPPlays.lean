/- PoolPlays: any texts have just those numbers. -/
import Derived.Test.YtnpbhpidciiciaaPOpen
import Derived.Test.YtnpbhpidciiciaaPRef
namespace Go.Proofs.Ytnpbhpidciiciaa
open Go.RowKit Go.Maps

theorem tbs_lenP {M : Nat} (hM : M ≤ 10000) : ∀ L : List ByteArray, (∀ s ∈ L, s.size ≤ M) → (tbs L).length ≤ L.length * (M + 10)
  | [], _ => by simp [tbs]
  | s :: L, h => by
    have h1 := h s (by simp)
    have h2 := tb_len (s := s) (by omega)
    have ih := tbs_lenP hM L (fun x hx => h x (by simp [hx]))
    rw [tbs_cons, List.length_append, List.length_cons, Nat.succ_mul]
    omega

theorem putL_sizeP {L : List ByteArray} {s : ByteArray} {M : Nat} (h : ∀ x ∈ L, x.size ≤ M) (hs : s.size ≤ M) : ∀ x ∈ putL L s, x.size ≤ M := by
  intro x hx
  unfold putL at hx
  split at hx
  · exact h x hx
  · rcases List.mem_append.1 hx with h1 | h1
    · exact h x h1
    · rw [List.mem_singleton.1 h1]; exact hs

/-- the text that one byte tells -/
theorem byte_textP (w : World) (z : Int) (n : Nat) (hz : z = (n : Int)) (hn : n < 256) : ∃ t : ByteArray, t.size = 1 ∧
    (convert 23 9 (.slice (some ⟨w.heap.size, 0, none⟩) 1 1)).run Try.prog (w.alloc (.cells #[.int .u8 z] 5)) = .ok (.string t) (w.alloc (.cells #[.int .u8 z] 5)) :=
  ⟨tx [UInt8.ofNat n], by rw [tx_size]; rfl, conv_rd (rd_new1 w (.int .u8 z) 5 (UInt8.ofNat n) (by rw [u8_ofNat hn, hz]))⟩

set_option maxHeartbeats 1000000 in
set_option maxRecDepth 100000 in
theorem plays_long (p q : Option Addr) (n0 c0 n1 c1 : Nat) (i : Int) (w : World) (h : 20 < n0 ∨ 40 < n1) (hm0 : n0 ≤ 9223372036854775807) (hm1 : n1 ≤ 9223372036854775807) :
    Calls Try.prog 3 #[.slice p n0 c0, .slice q n1 c1, .int .i64 i] w fun e w' => e = .returned (.bool true) ∧ Below w.heap.size w w' := by
  by_cases h20 : 20 < n0
  all_goals
    go_enter Try.func3, Try.ntmps3
    go_wp2_with fail
    refine (known_any _).mono ?_
    rintro e w1 ⟨rfl, hB1⟩
    go_wp2
    go_ret
    exact ⟨rfl, hB1⟩

set_option maxHeartbeats 4000000 in
set_option maxRecDepth 100000 in
theorem plays_short (p q : Option Addr) (n0 c0 n1 c1 : Nat) (i : Int) (Z : Nat → ByteArray) (w : World) (h0 : n0 ≤ 20) (h1 : n1 ≤ 40) (hi1 : -9223372036854775808 ≤ i) (hi2 : i ≤ 9223372036854775807)
    (hz : 0 < n0 → ∃ b off, p = some ⟨b, off, none⟩ ∧ n0 ≤ c0 ∧ RowAt w b off n0 (fun i => .string (Z i))) (hzs : ∀ i, (Z i).size ≤ 9223372036854775807)
    (hk : 0 < n1 → ∃ g off, q = some ⟨g, off, none⟩ ∧ g < w.heap.size ∧ ∀ i, i < n1 → ∃ x : Nat, x < 256 ∧ w.cell? ⟨g, off + i, none⟩ = some (.int .u8 (x : Int))) :
    Calls Try.prog 3 #[.slice p n0 c0, .slice q n1 c1, .int .i64 i] w fun e w' => e = .returned (.bool true) ∧ Below w.heap.size w w' := by
  go_enter Try.func3, Try.ntmps3
  go_wp2_with fail
  refine (known_any _).mono ?_
  rintro e w1 ⟨rfl, hB1⟩
  have hs1 := hB1.size
  go_wp2_with fail
  refine (pnew_any _).mono ?_
  rintro e w2 ⟨pb, mb, rfl, hp2, hb2⟩
  have hB2 : Below w.heap.size w w2 := hB1.trans (hb2.mono hs1)
  have hs2 := hB2.size
  have hp3 : Pl (w2.alloc (.cells #[Value.slice none 0 0] 29)) w.heap.size pb mb (.slice none 0 0) [] := (hp2.mono hs1).kpt (Kpt.alloc [] _ _) (fun x _ => by simp)
  have hq3 : Rp (w2.alloc (.cells #[Value.slice none 0 0] 29)) w.heap.size w2.heap.size (.slice none 0 0) [] := ⟨hs2, heap_alloc_new _ _, OwnS.nil _ _, fun h => by cases h⟩
  have hB3 : Below w.heap.size w (w2.alloc (.cells #[Value.slice none 0 0] 29)) := hB2.alloc hs2 _
  have hap3 : ∀ x ∈ fp pb mb (.slice none 0 0), x ∉ fq w2.heap.size (.slice none 0 0) := fun x hx hy => by
    have h1 := (hp2.lt x hx).2
    rcases mem_fq.1 hy with h | h
    · omega
    · cases h
  obtain ⟨qb, hqb⟩ : ∃ qb, qb = w2.heap.size := ⟨_, rfl⟩
  rw [← hqb] at hq3 hap3
  clear hb2 hp2 hs1 hB1 hB2
  go_wp2
  rw [← hqb]
  go_loopw [9] (fun v wr => ∃ (j : Nat) (sl sq : Value) (L : List ByteArray), v = .int .i64 j ∧ j ≤ n1 ∧ L.length ≤ j ∧ Hid (∀ s ∈ L, s.size ≤ 100) ∧ Pl wr w.heap.size pb mb sl L ∧ Rp wr w.heap.size qb sq L ∧ Hid (∀ x ∈ fp pb mb sl, x ∉ fq qb sq) ∧ Below w.heap.size w wr) (fun v _ => n1 - (intOf v).toNat)
  case atStart => exact ⟨0, _, _, [], rfl, Nat.zero_le _, Nat.le_refl _, Lib.hid (fun s h => by simp at h), hp3, hq3, Lib.hid hap3, hB3⟩
  case round =>
    clear hp3 hq3 hB3 hap3 hs2 hqb
    obtain ⟨j, sl, sq, L, rfl, hjn, hLj, HL, hp, hq, HAP0, hB⟩ := hrel
    have hap := HAP0.out
    have hs := hB.size
    by_cases hlt : j < n1
    · obtain ⟨g, off, rfl, hgw, hc⟩ := hk (by omega)
      obtain ⟨x, hx, hcx⟩ := hc j hlt
      have hcell : wr.cell? ⟨g, off + j, none⟩ = some (.int .u8 (x : Int)) := (hB.cell (p := ⟨g, off + j, none⟩) hgw).trans hcx
      obtain ⟨y, hy⟩ : ∃ y : Nat, y = x % 12 := ⟨_, rfl⟩
      have hyi : (x : Int) % 12 = (y : Int) := by omega
      have hy12 : y < 12 := by omega
      obtain ⟨t1, ht1s, hcv⟩ := byte_textP wr (97 + (y : Int)) (97 + y) (by omega) (by omega)
      obtain ⟨WA, hWA⟩ : ∃ W, wr.alloc (.cells #[Value.int .u8 (97 + (y : Int))] 5) = W := ⟨_, rfl⟩
      have hpA : Pl WA w.heap.size pb mb sl L := by rw [← hWA]; exact hp.kpt (Kpt.alloc [] _ _) (fun x _ => by simp)
      have hqA : Rp WA w.heap.size qb sq L := by rw [← hWA]; exact hq.kpt (Kpt.alloc [] _ _) (fun x _ => by simp)
      have hBA : Below w.heap.size w WA := by rw [← hWA]; exact hB.alloc hs _
      have hsA := hBA.size
      have hcellA : WA.cell? ⟨g, off + j, none⟩ = some (.int .u8 (x : Int)) := (hBA.cell (p := ⟨g, off + j, none⟩) hgw).trans hcx
      have hcv2 := hcv
      rw [hWA] at hcv2
      clear hy hcx hc hk hp hq HAP0 hB hs
      by_cases hcond : 0 < n0 ∧ 180 < x
      · obtain ⟨b, off2, rfl, hlc, hrow⟩ := hz hcond.1
        obtain ⟨r, hr⟩ : ∃ r : Nat, r = x % n0 := ⟨_, rfl⟩
        have hrn : r < n0 := by rw [hr]; exact Nat.mod_lt _ hcond.1
        have hri : (x : Int) % (n0 : Int) = (r : Int) := by rw [hr]; simp
        have hcellZ : WA.cell? ⟨b, off2 + r, none⟩ = some (.string (Z r)) := hrow.below hBA hrn
        have hzr := hzs r
        obtain ⟨s, hsz⟩ : ∃ s, s = Z r := ⟨_, rfl⟩
        rw [← hsz] at hcellZ hzr
        have hc1 := hcond.1
        have hc2 := hcond.2
        clear hr hrow hsz hz hzs hcond
        by_cases hbig : 100 < (s).size
        · go_wp2
          go_ret
          exact ⟨rfl, hBA⟩
        · have hss2 : (s).size ≤ 100 := by omega
          obtain ⟨M, hM⟩ : ∃ M, M = putL L (s) := ⟨_, rfl⟩
          obtain ⟨n, hn⟩ : ∃ n, n = pos L (s) := ⟨_, rfl⟩
          have hlM : M.length ≤ L.length + 1 := by rw [hM]; exact putL_len L _
          have hzM : ∀ x ∈ M, x.size ≤ 100 := by rw [hM]; exact putL_sizeP HL.out hss2
          have HM := Lib.hid hM
          have HN := Lib.hid hn
          have HZM := Lib.hid hzM
          have HPA := Lib.hid hpA
          have HQA := Lib.hid hqA
          have HBA := Lib.hid hBA
          have HAP := Lib.hid hap
          have hsAd := hsA
          clear hM hn hzM hpA hqA hBA hap
          go_wp2_with fail
          clear hcv hcv2 ht1s hcell hcellA hcellZ hyi hy12 hri hx hgw hWA hsA hc1 hc2
          refine wp_region_held_drew (S := fun _ => True) (by kernel_rfl) trivial (fun hHeld => ?_)
          refine wpAnyH_take (i := 0) (oi := _) (v := ?_) (by simp only [List.getElem?_toArray, List.getElem?_cons_zero]; rfl) (by kernel_rfl) (by kernel_rfl) (by kernel_rfl) (by intro _ _ _ h; exact h) (Or.inl ⟨by rfl, fun W hSw => ?_⟩) hHeld ?_
          rotate_left 1
          · (clear hSw; first | (go_simp; done) | (go_simp; with_reducible rfl))
          try go_frame
          refine wpAnyH_take (i := 1) (oi := _) (v := ?_) (by simp only [List.getElem?_toArray, List.getElem?_cons_succ, List.getElem?_cons_zero]; rfl) (by kernel_rfl) (by kernel_rfl) (by kernel_rfl) (by intro _ _ _ h; exact h) (Or.inl ⟨by rfl, fun W hSw => ?_⟩) hHeld ?_
          rotate_left 1
          · (clear hSw; first | (go_simp; done) | (go_simp; with_reducible rfl))
          try go_frame
          refine wpAnyH_take (i := 3) (oi := _) (v := ?_) (by simp only [List.getElem?_toArray, List.getElem?_cons_succ, List.getElem?_cons_zero]; rfl) (by kernel_rfl) (by kernel_rfl) (by kernel_rfl) (by intro _ _ _ h; exact h) (Or.inl ⟨by rfl, fun W hSw => ?_⟩) hHeld ?_
          rotate_left 1
          · (clear hSw; first | (go_simp; done) | (go_simp; with_reducible rfl))
          try go_frame
          refine wpAnyH_take (i := 4) (oi := _) (v := ?_) (by simp only [List.getElem?_toArray, List.getElem?_cons_succ, List.getElem?_cons_zero]; rfl) (by kernel_rfl) (by kernel_rfl) (by kernel_rfl) (by intro _ _ _ h; exact h) (Or.inl ⟨by rfl, fun W hSw => ?_⟩) hHeld ?_
          rotate_left 1
          · (clear hSw; first | (go_simp; done) | (go_simp; with_reducible rfl))
          try go_frame
          refine wpAnyH_ready (rs := [2]) (by kernel_rfl) (by simp) ?_
          refine AllReadyH.cons (o := _) (by simp only [List.getElem?_toArray, List.getElem?_cons_succ, List.getElem?_cons_zero]; rfl) (fun K hK => ?_) AllReadyH.nil
          clear hHeld
          go_simp
          refine (pput_any _ pb mb sl L (s) _ (show Pl WA.drew w.heap.size pb mb sl L from HPA.out) hsAd (by omega) (by omega)).mono ?_
          rintro e w5 ⟨sl5, rfl, hp5, hk5, hf5⟩
          rw [← HN.out]
          rw [← HM.out] at hp5
          have hon : On WA.drew w5 w.heap.size pb mb sl sl5 M := ⟨hp5, hk5, hf5⟩
          have hq5 : Rp w5 w.heap.size qb sq L := (show Rp WA.drew w.heap.size qb sq L from HQA.out).kpt hk5 (fun x hx h => HAP.out x h hx)
          have hap5 : ∀ x ∈ fp pb mb sl5, x ∉ fq qb sq := fun x hx hy => by
            rcases hon.fresh x hx with h | h
            · exact HAP.out x h hy
            · have h2 := (HQA.out.lt x hy).2
              have h3 : WA.drew.heap.size = WA.heap.size := rfl
              omega
          have hB5 : Below w.heap.size w w5 := HBA.out.drew.trans (hk5.below (fun x hx => (HPA.out.lt x hx).1) hsAd)
          have hs5 := hB5.size
          clear hon hk5 hf5
          refine hK.out _ _ trivial (fun hHeld => ?_)
          clear hK K
          try go_frame
          refine wpAnyH_ready (rs := [5]) (by kernel_rfl) (by simp) ?_
          refine AllReadyH.cons (o := _) (by simp only [List.getElem?_toArray, List.getElem?_cons_succ, List.getElem?_cons_zero]; rfl) (fun K hK => ?_) AllReadyH.nil
          clear hHeld
          go_simp
          refine (rput_any _ qb sq L (s) _ hq5 hs5 (by omega)).mono ?_
          rintro e w6 ⟨sq6, rfl, hq6, hk6, hf6⟩
          rw [← HN.out]
          rw [← HM.out] at hq6
          have hap6 : ∀ x ∈ fp pb mb sl5, x ∉ fq qb sq6 := fun x hx hy => by
            rcases OnF.fresh ⟨hq6, hk6, hf6⟩ x hy with h | h
            · exact hap5 x hx h
            · have := (hp5.lt x hx).2; omega
          have hp6 : Pl w6 w.heap.size pb mb sl5 M := hp5.kpt hk6 hap5
          have hB6 : Below w.heap.size w w6 := hB5.trans (hk6.below (fun x hx => (hq5.lt x hx).1) hs5)
          obtain ⟨aq, cq, hsq, _, _, _⟩ := hq6.2.2.1.form
          subst hsq
          have cq6 := hq6.cells.2.1
          clear hk6 hf6 hq5 hp5 hB5 hs5 hap5
          refine hK.out _ _ trivial (fun hHeld => ?_)
          clear hK K
          try go_frame
          refine wpAnyH_take (i := 6) (oi := _) (v := ?_) (by simp only [List.getElem?_toArray, List.getElem?_cons_succ, List.getElem?_cons_zero]; rfl) (by kernel_rfl) (by kernel_rfl) (by kernel_rfl) (by intro _ _ _ h; exact h) (Or.inl ⟨by rfl, fun W hSw => ?_⟩) hHeld ?_
          rotate_left 1
          · (clear hSw; first | (go_simp; done) | (go_simp; with_reducible rfl))
          try go_frame
          refine wpAnyH_take (i := 7) (oi := _) (v := ?_) (by simp only [List.getElem?_toArray, List.getElem?_cons_succ, List.getElem?_cons_zero]; rfl) (by kernel_rfl) (by kernel_rfl) (by kernel_rfl) (by intro _ _ _ h; exact h) (Or.inl ⟨by rfl, fun W hSw => ?_⟩) hHeld ?_
          rotate_left 1
          · (clear hSw; first | (go_simp; done) | (go_simp; with_reducible rfl))
          try go_frame
          refine wpAnyH_take (i := 8) (oi := _) (v := ?_) (by simp only [List.getElem?_toArray, List.getElem?_cons_succ, List.getElem?_cons_zero]; rfl) (by kernel_rfl) (by kernel_rfl) (by kernel_rfl) (by intro _ _ _ h; exact h) (Or.inl ⟨by rfl, fun W hSw => ?_⟩) hHeld ?_
          rotate_left 1
          · (clear hSw; first | (go_simp; done) | (go_simp; with_reducible rfl))
          try go_frame
          refine wpAnyH_take (i := 10) (oi := _) (v := ?_) (by simp only [List.getElem?_toArray, List.getElem?_cons_succ, List.getElem?_cons_zero]; rfl) (by kernel_rfl) (by kernel_rfl) (by kernel_rfl) (by intro _ _ _ h; exact h) (Or.inl ⟨by rfl, fun W hSw => ?_⟩) hHeld ?_
          rotate_left 1
          · (clear hSw; first | (go_simp; done) | (go_simp; with_reducible rfl))
          try go_frame
          refine wpAnyH_take (i := 11) (oi := _) (v := ?_) (by simp only [List.getElem?_toArray, List.getElem?_cons_succ, List.getElem?_cons_zero]; rfl) (by kernel_rfl) (by kernel_rfl) (by kernel_rfl) (by intro _ _ _ h; exact h) (Or.inl ⟨by rfl, fun W hSw => ?_⟩) hHeld ?_
          rotate_left 1
          · (clear hSw; first | (go_simp; done) | (go_simp; with_reducible rfl))
          try go_frame
          refine wpAnyH_take (i := 12) (oi := _) (v := ?_) (by simp only [List.getElem?_toArray, List.getElem?_cons_succ, List.getElem?_cons_zero]; rfl) (by kernel_rfl) (by kernel_rfl) (by kernel_rfl) (by intro _ _ _ h; exact h) (Or.inl ⟨by rfl, fun W hSw => ?_⟩) hHeld ?_
          rotate_left 1
          · (clear hSw; first | (go_simp; done) | (go_simp; with_reducible rfl))
          try go_frame
          refine wpAnyH_and (T := fun W => W.cell? ⟨qb, 0, none⟩ = some (.slice aq M.length cq)) _ _ _ _ ?_
          replace hHeld := And.intro hHeld (cq6)
          refine wpAnyH_take (i := 13) (oi := _) (v := ?_) (by simp only [List.getElem?_toArray, List.getElem?_cons_succ, List.getElem?_cons_zero]; rfl) (by kernel_rfl) (by kernel_rfl) (by kernel_rfl) (by intro _ _ _ h; exact h) (Or.inl ⟨by rfl, fun W hSw => ?_⟩) hHeld ?_
          rotate_left 1
          · (have hT := hSw.2; clear hSw; first | (go_simp; done) | (go_simp; with_reducible rfl))
          try go_frame
          refine wpAnyH_take (i := 14) (oi := _) (v := ?_) (by simp only [List.getElem?_toArray, List.getElem?_cons_succ, List.getElem?_cons_zero]; rfl) (by kernel_rfl) (by kernel_rfl) (by kernel_rfl) (by intro _ _ _ h; exact h) (Or.inl ⟨by rfl, fun W hSw => ?_⟩) hHeld ?_
          rotate_left 1
          · (clear hSw; first | (go_simp; done) | (go_simp; with_reducible rfl))
          try go_frame
          refine wpAnyH_ready (rs := [9]) (by kernel_rfl) (by simp) ?_
          refine AllReadyH.cons (o := _) (by simp only [List.getElem?_toArray, List.getElem?_cons_succ, List.getElem?_cons_zero]; rfl) (fun K hK => ?_) AllReadyH.nil
          clear hHeld
          go_simp
          refine (plen_any _ pb mb sl5 M _ hp6).mono ?_
          rintro e v ⟨rfl, rfl⟩
          refine hK.out _ _ ⟨trivial, cq6⟩ (fun hHeld => ?_)
          clear hK K
          try go_frame
          refine wpAnyH_take (i := 15) (oi := _) (v := ?_) (by simp only [List.getElem?_toArray, List.getElem?_cons_succ, List.getElem?_cons_zero]; rfl) (by kernel_rfl) (by kernel_rfl) (by kernel_rfl) (by intro _ _ _ h; exact h) (Or.inl ⟨by rfl, fun W hSw => ?_⟩) hHeld ?_
          rotate_left 1
          · (clear hSw; first | (go_simp; done) | (go_simp; with_reducible rfl))
          try go_frame
          refine wpAnyH_take (i := 16) (oi := _) (v := ?_) (by simp only [List.getElem?_toArray, List.getElem?_cons_succ, List.getElem?_cons_zero]; rfl) (by kernel_rfl) (by kernel_rfl) (by kernel_rfl) (by intro _ _ _ h; exact h) (Or.inl ⟨by rfl, fun W hSw => ?_⟩) hHeld ?_
          rotate_left 1
          · (clear hSw; first | (go_simp; done) | (go_simp; with_reducible rfl))
          try go_frame
          refine wpAnyH_done (by kernel_rfl) ?_ _
          clear cq6
          go_wp2_with fail
          go_roundw
          case rel => first | exact ⟨j + 1, sl5, _, M, by go_num, by omega, by omega, HZM, hp6, hq6, Lib.hid hap6, hB6⟩ | ((repeat apply Exists.intro); refine ⟨?_, rfl⟩; exact ⟨j + 1, sl5, _, M, by go_num, by omega, by omega, HZM, hp6, hq6, Lib.hid hap6, hB6⟩)
          case measure => simp [intOf]; omega
      · have hcb : 0 < n0 → x ≤ 180 := fun h => by omega
        clear hz hzs
        rcases Nat.eq_zero_or_pos n0 with hn0 | hn0
        · subst hn0
          clear hcond hcb
          have hss2 : (t1).size ≤ 100 := by omega
          obtain ⟨M, hM⟩ : ∃ M, M = putL L (t1) := ⟨_, rfl⟩
          obtain ⟨n, hn⟩ : ∃ n, n = pos L (t1) := ⟨_, rfl⟩
          have hlM : M.length ≤ L.length + 1 := by rw [hM]; exact putL_len L _
          have hzM : ∀ x ∈ M, x.size ≤ 100 := by rw [hM]; exact putL_sizeP HL.out hss2
          have HM := Lib.hid hM
          have HN := Lib.hid hn
          have HZM := Lib.hid hzM
          have HPA := Lib.hid hpA
          have HQA := Lib.hid hqA
          have HBA := Lib.hid hBA
          have HAP := Lib.hid hap
          have hsAd := hsA
          clear hM hn hzM hpA hqA hBA hap
          go_wp2_with fail
          clear hcv hcv2 ht1s hcell hcellA hyi hy12 hx hgw hWA hsA
          refine wp_region_held_drew (S := fun _ => True) (by kernel_rfl) trivial (fun hHeld => ?_)
          refine wpAnyH_take (i := 0) (oi := _) (v := ?_) (by simp only [List.getElem?_toArray, List.getElem?_cons_zero]; rfl) (by kernel_rfl) (by kernel_rfl) (by kernel_rfl) (by intro _ _ _ h; exact h) (Or.inl ⟨by rfl, fun W hSw => ?_⟩) hHeld ?_
          rotate_left 1
          · (clear hSw; first | (go_simp; done) | (go_simp; with_reducible rfl))
          try go_frame
          refine wpAnyH_take (i := 1) (oi := _) (v := ?_) (by simp only [List.getElem?_toArray, List.getElem?_cons_succ, List.getElem?_cons_zero]; rfl) (by kernel_rfl) (by kernel_rfl) (by kernel_rfl) (by intro _ _ _ h; exact h) (Or.inl ⟨by rfl, fun W hSw => ?_⟩) hHeld ?_
          rotate_left 1
          · (clear hSw; first | (go_simp; done) | (go_simp; with_reducible rfl))
          try go_frame
          refine wpAnyH_take (i := 3) (oi := _) (v := ?_) (by simp only [List.getElem?_toArray, List.getElem?_cons_succ, List.getElem?_cons_zero]; rfl) (by kernel_rfl) (by kernel_rfl) (by kernel_rfl) (by intro _ _ _ h; exact h) (Or.inl ⟨by rfl, fun W hSw => ?_⟩) hHeld ?_
          rotate_left 1
          · (clear hSw; first | (go_simp; done) | (go_simp; with_reducible rfl))
          try go_frame
          refine wpAnyH_take (i := 4) (oi := _) (v := ?_) (by simp only [List.getElem?_toArray, List.getElem?_cons_succ, List.getElem?_cons_zero]; rfl) (by kernel_rfl) (by kernel_rfl) (by kernel_rfl) (by intro _ _ _ h; exact h) (Or.inl ⟨by rfl, fun W hSw => ?_⟩) hHeld ?_
          rotate_left 1
          · (clear hSw; first | (go_simp; done) | (go_simp; with_reducible rfl))
          try go_frame
          refine wpAnyH_ready (rs := [2]) (by kernel_rfl) (by simp) ?_
          refine AllReadyH.cons (o := _) (by simp only [List.getElem?_toArray, List.getElem?_cons_succ, List.getElem?_cons_zero]; rfl) (fun K hK => ?_) AllReadyH.nil
          clear hHeld
          go_simp
          refine (pput_any _ pb mb sl L (t1) _ (show Pl WA.drew w.heap.size pb mb sl L from HPA.out) hsAd (by omega) (by omega)).mono ?_
          rintro e w5 ⟨sl5, rfl, hp5, hk5, hf5⟩
          rw [← HN.out]
          rw [← HM.out] at hp5
          have hon : On WA.drew w5 w.heap.size pb mb sl sl5 M := ⟨hp5, hk5, hf5⟩
          have hq5 : Rp w5 w.heap.size qb sq L := (show Rp WA.drew w.heap.size qb sq L from HQA.out).kpt hk5 (fun x hx h => HAP.out x h hx)
          have hap5 : ∀ x ∈ fp pb mb sl5, x ∉ fq qb sq := fun x hx hy => by
            rcases hon.fresh x hx with h | h
            · exact HAP.out x h hy
            · have h2 := (HQA.out.lt x hy).2
              have h3 : WA.drew.heap.size = WA.heap.size := rfl
              omega
          have hB5 : Below w.heap.size w w5 := HBA.out.drew.trans (hk5.below (fun x hx => (HPA.out.lt x hx).1) hsAd)
          have hs5 := hB5.size
          clear hon hk5 hf5
          refine hK.out _ _ trivial (fun hHeld => ?_)
          clear hK K
          try go_frame
          refine wpAnyH_ready (rs := [5]) (by kernel_rfl) (by simp) ?_
          refine AllReadyH.cons (o := _) (by simp only [List.getElem?_toArray, List.getElem?_cons_succ, List.getElem?_cons_zero]; rfl) (fun K hK => ?_) AllReadyH.nil
          clear hHeld
          go_simp
          refine (rput_any _ qb sq L (t1) _ hq5 hs5 (by omega)).mono ?_
          rintro e w6 ⟨sq6, rfl, hq6, hk6, hf6⟩
          rw [← HN.out]
          rw [← HM.out] at hq6
          have hap6 : ∀ x ∈ fp pb mb sl5, x ∉ fq qb sq6 := fun x hx hy => by
            rcases OnF.fresh ⟨hq6, hk6, hf6⟩ x hy with h | h
            · exact hap5 x hx h
            · have := (hp5.lt x hx).2; omega
          have hp6 : Pl w6 w.heap.size pb mb sl5 M := hp5.kpt hk6 hap5
          have hB6 : Below w.heap.size w w6 := hB5.trans (hk6.below (fun x hx => (hq5.lt x hx).1) hs5)
          obtain ⟨aq, cq, hsq, _, _, _⟩ := hq6.2.2.1.form
          subst hsq
          have cq6 := hq6.cells.2.1
          clear hk6 hf6 hq5 hp5 hB5 hs5 hap5
          refine hK.out _ _ trivial (fun hHeld => ?_)
          clear hK K
          try go_frame
          refine wpAnyH_take (i := 6) (oi := _) (v := ?_) (by simp only [List.getElem?_toArray, List.getElem?_cons_succ, List.getElem?_cons_zero]; rfl) (by kernel_rfl) (by kernel_rfl) (by kernel_rfl) (by intro _ _ _ h; exact h) (Or.inl ⟨by rfl, fun W hSw => ?_⟩) hHeld ?_
          rotate_left 1
          · (clear hSw; first | (go_simp; done) | (go_simp; with_reducible rfl))
          try go_frame
          refine wpAnyH_take (i := 7) (oi := _) (v := ?_) (by simp only [List.getElem?_toArray, List.getElem?_cons_succ, List.getElem?_cons_zero]; rfl) (by kernel_rfl) (by kernel_rfl) (by kernel_rfl) (by intro _ _ _ h; exact h) (Or.inl ⟨by rfl, fun W hSw => ?_⟩) hHeld ?_
          rotate_left 1
          · (clear hSw; first | (go_simp; done) | (go_simp; with_reducible rfl))
          try go_frame
          refine wpAnyH_take (i := 8) (oi := _) (v := ?_) (by simp only [List.getElem?_toArray, List.getElem?_cons_succ, List.getElem?_cons_zero]; rfl) (by kernel_rfl) (by kernel_rfl) (by kernel_rfl) (by intro _ _ _ h; exact h) (Or.inl ⟨by rfl, fun W hSw => ?_⟩) hHeld ?_
          rotate_left 1
          · (clear hSw; first | (go_simp; done) | (go_simp; with_reducible rfl))
          try go_frame
          refine wpAnyH_take (i := 10) (oi := _) (v := ?_) (by simp only [List.getElem?_toArray, List.getElem?_cons_succ, List.getElem?_cons_zero]; rfl) (by kernel_rfl) (by kernel_rfl) (by kernel_rfl) (by intro _ _ _ h; exact h) (Or.inl ⟨by rfl, fun W hSw => ?_⟩) hHeld ?_
          rotate_left 1
          · (clear hSw; first | (go_simp; done) | (go_simp; with_reducible rfl))
          try go_frame
          refine wpAnyH_take (i := 11) (oi := _) (v := ?_) (by simp only [List.getElem?_toArray, List.getElem?_cons_succ, List.getElem?_cons_zero]; rfl) (by kernel_rfl) (by kernel_rfl) (by kernel_rfl) (by intro _ _ _ h; exact h) (Or.inl ⟨by rfl, fun W hSw => ?_⟩) hHeld ?_
          rotate_left 1
          · (clear hSw; first | (go_simp; done) | (go_simp; with_reducible rfl))
          try go_frame
          refine wpAnyH_take (i := 12) (oi := _) (v := ?_) (by simp only [List.getElem?_toArray, List.getElem?_cons_succ, List.getElem?_cons_zero]; rfl) (by kernel_rfl) (by kernel_rfl) (by kernel_rfl) (by intro _ _ _ h; exact h) (Or.inl ⟨by rfl, fun W hSw => ?_⟩) hHeld ?_
          rotate_left 1
          · (clear hSw; first | (go_simp; done) | (go_simp; with_reducible rfl))
          try go_frame
          refine wpAnyH_and (T := fun W => W.cell? ⟨qb, 0, none⟩ = some (.slice aq M.length cq)) _ _ _ _ ?_
          replace hHeld := And.intro hHeld (cq6)
          refine wpAnyH_take (i := 13) (oi := _) (v := ?_) (by simp only [List.getElem?_toArray, List.getElem?_cons_succ, List.getElem?_cons_zero]; rfl) (by kernel_rfl) (by kernel_rfl) (by kernel_rfl) (by intro _ _ _ h; exact h) (Or.inl ⟨by rfl, fun W hSw => ?_⟩) hHeld ?_
          rotate_left 1
          · (have hT := hSw.2; clear hSw; first | (go_simp; done) | (go_simp; with_reducible rfl))
          try go_frame
          refine wpAnyH_take (i := 14) (oi := _) (v := ?_) (by simp only [List.getElem?_toArray, List.getElem?_cons_succ, List.getElem?_cons_zero]; rfl) (by kernel_rfl) (by kernel_rfl) (by kernel_rfl) (by intro _ _ _ h; exact h) (Or.inl ⟨by rfl, fun W hSw => ?_⟩) hHeld ?_
          rotate_left 1
          · (clear hSw; first | (go_simp; done) | (go_simp; with_reducible rfl))
          try go_frame
          refine wpAnyH_ready (rs := [9]) (by kernel_rfl) (by simp) ?_
          refine AllReadyH.cons (o := _) (by simp only [List.getElem?_toArray, List.getElem?_cons_succ, List.getElem?_cons_zero]; rfl) (fun K hK => ?_) AllReadyH.nil
          clear hHeld
          go_simp
          refine (plen_any _ pb mb sl5 M _ hp6).mono ?_
          rintro e v ⟨rfl, rfl⟩
          refine hK.out _ _ ⟨trivial, cq6⟩ (fun hHeld => ?_)
          clear hK K
          try go_frame
          refine wpAnyH_take (i := 15) (oi := _) (v := ?_) (by simp only [List.getElem?_toArray, List.getElem?_cons_succ, List.getElem?_cons_zero]; rfl) (by kernel_rfl) (by kernel_rfl) (by kernel_rfl) (by intro _ _ _ h; exact h) (Or.inl ⟨by rfl, fun W hSw => ?_⟩) hHeld ?_
          rotate_left 1
          · (clear hSw; first | (go_simp; done) | (go_simp; with_reducible rfl))
          try go_frame
          refine wpAnyH_take (i := 16) (oi := _) (v := ?_) (by simp only [List.getElem?_toArray, List.getElem?_cons_succ, List.getElem?_cons_zero]; rfl) (by kernel_rfl) (by kernel_rfl) (by kernel_rfl) (by intro _ _ _ h; exact h) (Or.inl ⟨by rfl, fun W hSw => ?_⟩) hHeld ?_
          rotate_left 1
          · (clear hSw; first | (go_simp; done) | (go_simp; with_reducible rfl))
          try go_frame
          refine wpAnyH_done (by kernel_rfl) ?_ _
          clear cq6
          go_wp2_with fail
          go_roundw
          case rel => first | exact ⟨j + 1, sl5, _, M, by go_num, by omega, by omega, HZM, hp6, hq6, Lib.hid hap6, hB6⟩ | ((repeat apply Exists.intro); refine ⟨?_, rfl⟩; exact ⟨j + 1, sl5, _, M, by go_num, by omega, by omega, HZM, hp6, hq6, Lib.hid hap6, hB6⟩)
          case measure => simp [intOf]; omega
        · have hx180 := hcb hn0
          clear hcond hcb
          have hss2 : (t1).size ≤ 100 := by omega
          obtain ⟨M, hM⟩ : ∃ M, M = putL L (t1) := ⟨_, rfl⟩
          obtain ⟨n, hn⟩ : ∃ n, n = pos L (t1) := ⟨_, rfl⟩
          have hlM : M.length ≤ L.length + 1 := by rw [hM]; exact putL_len L _
          have hzM : ∀ x ∈ M, x.size ≤ 100 := by rw [hM]; exact putL_sizeP HL.out hss2
          have HM := Lib.hid hM
          have HN := Lib.hid hn
          have HZM := Lib.hid hzM
          have HPA := Lib.hid hpA
          have HQA := Lib.hid hqA
          have HBA := Lib.hid hBA
          have HAP := Lib.hid hap
          have hsAd := hsA
          clear hM hn hzM hpA hqA hBA hap
          go_wp2_with fail
          clear hcv hcv2 ht1s hcell hcellA hyi hy12 hx hgw hWA hsA hx180
          refine wp_region_held_drew (S := fun _ => True) (by kernel_rfl) trivial (fun hHeld => ?_)
          refine wpAnyH_take (i := 0) (oi := _) (v := ?_) (by simp only [List.getElem?_toArray, List.getElem?_cons_zero]; rfl) (by kernel_rfl) (by kernel_rfl) (by kernel_rfl) (by intro _ _ _ h; exact h) (Or.inl ⟨by rfl, fun W hSw => ?_⟩) hHeld ?_
          rotate_left 1
          · (clear hSw; first | (go_simp; done) | (go_simp; with_reducible rfl))
          try go_frame
          refine wpAnyH_take (i := 1) (oi := _) (v := ?_) (by simp only [List.getElem?_toArray, List.getElem?_cons_succ, List.getElem?_cons_zero]; rfl) (by kernel_rfl) (by kernel_rfl) (by kernel_rfl) (by intro _ _ _ h; exact h) (Or.inl ⟨by rfl, fun W hSw => ?_⟩) hHeld ?_
          rotate_left 1
          · (clear hSw; first | (go_simp; done) | (go_simp; with_reducible rfl))
          try go_frame
          refine wpAnyH_take (i := 3) (oi := _) (v := ?_) (by simp only [List.getElem?_toArray, List.getElem?_cons_succ, List.getElem?_cons_zero]; rfl) (by kernel_rfl) (by kernel_rfl) (by kernel_rfl) (by intro _ _ _ h; exact h) (Or.inl ⟨by rfl, fun W hSw => ?_⟩) hHeld ?_
          rotate_left 1
          · (clear hSw; first | (go_simp; done) | (go_simp; with_reducible rfl))
          try go_frame
          refine wpAnyH_take (i := 4) (oi := _) (v := ?_) (by simp only [List.getElem?_toArray, List.getElem?_cons_succ, List.getElem?_cons_zero]; rfl) (by kernel_rfl) (by kernel_rfl) (by kernel_rfl) (by intro _ _ _ h; exact h) (Or.inl ⟨by rfl, fun W hSw => ?_⟩) hHeld ?_
          rotate_left 1
          · (clear hSw; first | (go_simp; done) | (go_simp; with_reducible rfl))
          try go_frame
          refine wpAnyH_ready (rs := [2]) (by kernel_rfl) (by simp) ?_
          refine AllReadyH.cons (o := _) (by simp only [List.getElem?_toArray, List.getElem?_cons_succ, List.getElem?_cons_zero]; rfl) (fun K hK => ?_) AllReadyH.nil
          clear hHeld
          go_simp
          refine (pput_any _ pb mb sl L (t1) _ (show Pl WA.drew w.heap.size pb mb sl L from HPA.out) hsAd (by omega) (by omega)).mono ?_
          rintro e w5 ⟨sl5, rfl, hp5, hk5, hf5⟩
          rw [← HN.out]
          rw [← HM.out] at hp5
          have hon : On WA.drew w5 w.heap.size pb mb sl sl5 M := ⟨hp5, hk5, hf5⟩
          have hq5 : Rp w5 w.heap.size qb sq L := (show Rp WA.drew w.heap.size qb sq L from HQA.out).kpt hk5 (fun x hx h => HAP.out x h hx)
          have hap5 : ∀ x ∈ fp pb mb sl5, x ∉ fq qb sq := fun x hx hy => by
            rcases hon.fresh x hx with h | h
            · exact HAP.out x h hy
            · have h2 := (HQA.out.lt x hy).2
              have h3 : WA.drew.heap.size = WA.heap.size := rfl
              omega
          have hB5 : Below w.heap.size w w5 := HBA.out.drew.trans (hk5.below (fun x hx => (HPA.out.lt x hx).1) hsAd)
          have hs5 := hB5.size
          clear hon hk5 hf5
          refine hK.out _ _ trivial (fun hHeld => ?_)
          clear hK K
          try go_frame
          refine wpAnyH_ready (rs := [5]) (by kernel_rfl) (by simp) ?_
          refine AllReadyH.cons (o := _) (by simp only [List.getElem?_toArray, List.getElem?_cons_succ, List.getElem?_cons_zero]; rfl) (fun K hK => ?_) AllReadyH.nil
          clear hHeld
          go_simp
          refine (rput_any _ qb sq L (t1) _ hq5 hs5 (by omega)).mono ?_
          rintro e w6 ⟨sq6, rfl, hq6, hk6, hf6⟩
          rw [← HN.out]
          rw [← HM.out] at hq6
          have hap6 : ∀ x ∈ fp pb mb sl5, x ∉ fq qb sq6 := fun x hx hy => by
            rcases OnF.fresh ⟨hq6, hk6, hf6⟩ x hy with h | h
            · exact hap5 x hx h
            · have := (hp5.lt x hx).2; omega
          have hp6 : Pl w6 w.heap.size pb mb sl5 M := hp5.kpt hk6 hap5
          have hB6 : Below w.heap.size w w6 := hB5.trans (hk6.below (fun x hx => (hq5.lt x hx).1) hs5)
          obtain ⟨aq, cq, hsq, _, _, _⟩ := hq6.2.2.1.form
          subst hsq
          have cq6 := hq6.cells.2.1
          clear hk6 hf6 hq5 hp5 hB5 hs5 hap5
          refine hK.out _ _ trivial (fun hHeld => ?_)
          clear hK K
          try go_frame
          refine wpAnyH_take (i := 6) (oi := _) (v := ?_) (by simp only [List.getElem?_toArray, List.getElem?_cons_succ, List.getElem?_cons_zero]; rfl) (by kernel_rfl) (by kernel_rfl) (by kernel_rfl) (by intro _ _ _ h; exact h) (Or.inl ⟨by rfl, fun W hSw => ?_⟩) hHeld ?_
          rotate_left 1
          · (clear hSw; first | (go_simp; done) | (go_simp; with_reducible rfl))
          try go_frame
          refine wpAnyH_take (i := 7) (oi := _) (v := ?_) (by simp only [List.getElem?_toArray, List.getElem?_cons_succ, List.getElem?_cons_zero]; rfl) (by kernel_rfl) (by kernel_rfl) (by kernel_rfl) (by intro _ _ _ h; exact h) (Or.inl ⟨by rfl, fun W hSw => ?_⟩) hHeld ?_
          rotate_left 1
          · (clear hSw; first | (go_simp; done) | (go_simp; with_reducible rfl))
          try go_frame
          refine wpAnyH_take (i := 8) (oi := _) (v := ?_) (by simp only [List.getElem?_toArray, List.getElem?_cons_succ, List.getElem?_cons_zero]; rfl) (by kernel_rfl) (by kernel_rfl) (by kernel_rfl) (by intro _ _ _ h; exact h) (Or.inl ⟨by rfl, fun W hSw => ?_⟩) hHeld ?_
          rotate_left 1
          · (clear hSw; first | (go_simp; done) | (go_simp; with_reducible rfl))
          try go_frame
          refine wpAnyH_take (i := 10) (oi := _) (v := ?_) (by simp only [List.getElem?_toArray, List.getElem?_cons_succ, List.getElem?_cons_zero]; rfl) (by kernel_rfl) (by kernel_rfl) (by kernel_rfl) (by intro _ _ _ h; exact h) (Or.inl ⟨by rfl, fun W hSw => ?_⟩) hHeld ?_
          rotate_left 1
          · (clear hSw; first | (go_simp; done) | (go_simp; with_reducible rfl))
          try go_frame
          refine wpAnyH_take (i := 11) (oi := _) (v := ?_) (by simp only [List.getElem?_toArray, List.getElem?_cons_succ, List.getElem?_cons_zero]; rfl) (by kernel_rfl) (by kernel_rfl) (by kernel_rfl) (by intro _ _ _ h; exact h) (Or.inl ⟨by rfl, fun W hSw => ?_⟩) hHeld ?_
          rotate_left 1
          · (clear hSw; first | (go_simp; done) | (go_simp; with_reducible rfl))
          try go_frame
          refine wpAnyH_take (i := 12) (oi := _) (v := ?_) (by simp only [List.getElem?_toArray, List.getElem?_cons_succ, List.getElem?_cons_zero]; rfl) (by kernel_rfl) (by kernel_rfl) (by kernel_rfl) (by intro _ _ _ h; exact h) (Or.inl ⟨by rfl, fun W hSw => ?_⟩) hHeld ?_
          rotate_left 1
          · (clear hSw; first | (go_simp; done) | (go_simp; with_reducible rfl))
          try go_frame
          refine wpAnyH_and (T := fun W => W.cell? ⟨qb, 0, none⟩ = some (.slice aq M.length cq)) _ _ _ _ ?_
          replace hHeld := And.intro hHeld (cq6)
          refine wpAnyH_take (i := 13) (oi := _) (v := ?_) (by simp only [List.getElem?_toArray, List.getElem?_cons_succ, List.getElem?_cons_zero]; rfl) (by kernel_rfl) (by kernel_rfl) (by kernel_rfl) (by intro _ _ _ h; exact h) (Or.inl ⟨by rfl, fun W hSw => ?_⟩) hHeld ?_
          rotate_left 1
          · (have hT := hSw.2; clear hSw; first | (go_simp; done) | (go_simp; with_reducible rfl))
          try go_frame
          refine wpAnyH_take (i := 14) (oi := _) (v := ?_) (by simp only [List.getElem?_toArray, List.getElem?_cons_succ, List.getElem?_cons_zero]; rfl) (by kernel_rfl) (by kernel_rfl) (by kernel_rfl) (by intro _ _ _ h; exact h) (Or.inl ⟨by rfl, fun W hSw => ?_⟩) hHeld ?_
          rotate_left 1
          · (clear hSw; first | (go_simp; done) | (go_simp; with_reducible rfl))
          try go_frame
          refine wpAnyH_ready (rs := [9]) (by kernel_rfl) (by simp) ?_
          refine AllReadyH.cons (o := _) (by simp only [List.getElem?_toArray, List.getElem?_cons_succ, List.getElem?_cons_zero]; rfl) (fun K hK => ?_) AllReadyH.nil
          clear hHeld
          go_simp
          refine (plen_any _ pb mb sl5 M _ hp6).mono ?_
          rintro e v ⟨rfl, rfl⟩
          refine hK.out _ _ ⟨trivial, cq6⟩ (fun hHeld => ?_)
          clear hK K
          try go_frame
          refine wpAnyH_take (i := 15) (oi := _) (v := ?_) (by simp only [List.getElem?_toArray, List.getElem?_cons_succ, List.getElem?_cons_zero]; rfl) (by kernel_rfl) (by kernel_rfl) (by kernel_rfl) (by intro _ _ _ h; exact h) (Or.inl ⟨by rfl, fun W hSw => ?_⟩) hHeld ?_
          rotate_left 1
          · (clear hSw; first | (go_simp; done) | (go_simp; with_reducible rfl))
          try go_frame
          refine wpAnyH_take (i := 16) (oi := _) (v := ?_) (by simp only [List.getElem?_toArray, List.getElem?_cons_succ, List.getElem?_cons_zero]; rfl) (by kernel_rfl) (by kernel_rfl) (by kernel_rfl) (by intro _ _ _ h; exact h) (Or.inl ⟨by rfl, fun W hSw => ?_⟩) hHeld ?_
          rotate_left 1
          · (clear hSw; first | (go_simp; done) | (go_simp; with_reducible rfl))
          try go_frame
          refine wpAnyH_done (by kernel_rfl) ?_ _
          clear cq6
          go_wp2_with fail
          go_roundw
          case rel => first | exact ⟨j + 1, sl5, _, M, by go_num, by omega, by omega, HZM, hp6, hq6, Lib.hid hap6, hB6⟩ | ((repeat apply Exists.intro); refine ⟨?_, rfl⟩; exact ⟨j + 1, sl5, _, M, by go_num, by omega, by omega, HZM, hp6, hq6, Lib.hid hap6, hB6⟩)
          case measure => simp [intOf]; omega
    · obtain rfl : j = n1 := by omega
      obtain ⟨aq, cq, hsq, hl1, hl2, hfq⟩ := hq.2.2.1.form
      subst hsq
      have cq0 := hq.cells.2.1
      have hLi : L.length ≤ 40 := by omega
      have HP := Lib.hid hp
      have HQ := Lib.hid hq
      have HB := Lib.hid hB
      clear hp hq hB hap HAP0 hk hz hzs hl1 hl2
      go_wp2
      go_loop [11] (fun v => ∃ m : Nat, v = .int .i64 m ∧ m ≤ L.length) (fun v => L.length - (intOf v).toNat)
      case atStart => exact ⟨0, rfl, Nat.zero_le _⟩
      case round =>
        obtain ⟨m, rfl, hmL⟩ := hrel
        by_cases hlt2 : m < L.length
        · obtain ⟨gq, rfl, hcq⟩ := hfq (by omega)
          have hcell := hcq m hlt2
          clear hcq hfq
          go_wp2_with fail
          refine (pat_in _ pb mb sl L m _ HP.out hlt2).mono ?_
          rintro e v ⟨rfl, rfl⟩
          go_wp2
          go_round
          case rel => exact ⟨m + 1, by go_num, by omega⟩
          case measure => simp [intOf]; omega
        · clear hfq
          have hTM := tbs_lenP (M := 100) (by decide) L HL.out
          have hsM : Hid (∀ s ∈ L, s.size ≤ 10000) := Lib.hid (fun s h => Nat.le_trans (HL.out s h) (by decide))
          have hBD : Hid (Below w.heap.size w wr.drew) := Lib.hid HB.out.drew
          rcases (show i < 0 ∨ (0 ≤ i ∧ i < (L.length : Int)) ∨ (0 ≤ i ∧ (L.length : Int) ≤ i) by omega) with hc | ⟨hc, hc2⟩ | ⟨hc, hc2⟩
          · go_wp2_with fail
            refine (pat_out _ pb mb sl L i _ HP.out (.inl hc)).mono ?_
            rintro e v ⟨rfl, rfl⟩
            have hge : decide ((0 : Int) ≤ i) = false := decide_eq_false (by omega)
            go_wp2_with fail
            refine wp_region_held_drew (S := fun _ => True) (by kernel_rfl) trivial (fun hHeld => ?_)
            refine wpAnyH_take (i := 0) (oi := _) (v := ?_) (by simp only [List.getElem?_toArray, List.getElem?_cons_zero]; rfl) (by kernel_rfl) (by kernel_rfl) (by kernel_rfl) (by intro _ _ _ h; exact h) (Or.inl ⟨by rfl, fun W hSw => ?_⟩) hHeld ?_
            rotate_left 1
            · (clear hSw; first | (go_simp; done) | (go_simp; with_reducible rfl))
            try go_frame
            refine wpAnyH_take (i := 1) (oi := _) (v := ?_) (by simp only [List.getElem?_toArray, List.getElem?_cons_succ, List.getElem?_cons_zero]; rfl) (by kernel_rfl) (by kernel_rfl) (by kernel_rfl) (by intro _ _ _ h; exact h) (Or.inl ⟨by rfl, fun W hSw => ?_⟩) hHeld ?_
            rotate_left 1
            · (clear hSw; first | (go_simp; done) | (go_simp; with_reducible rfl))
            try go_frame
            refine wpAnyH_take (i := 2) (oi := _) (v := ?_) (by simp only [List.getElem?_toArray, List.getElem?_cons_succ, List.getElem?_cons_zero]; rfl) (by kernel_rfl) (by kernel_rfl) (by kernel_rfl) (by intro _ _ _ h; exact h) (Or.inl ⟨by rfl, fun W hSw => ?_⟩) hHeld ?_
            rotate_left 1
            · (clear hSw; first | (go_simp; done) | (go_simp; with_reducible rfl))
            try go_frame
            refine wpAnyH_take (i := 3) (oi := _) (v := ?_) (by simp only [List.getElem?_toArray, List.getElem?_cons_succ, List.getElem?_cons_zero]; rfl) (by kernel_rfl) (by kernel_rfl) (by kernel_rfl) (by intro _ _ _ h; exact h) (Or.inl ⟨by rfl, fun W hSw => ?_⟩) hHeld ?_
            rotate_left 1
            · (clear hSw; first | (go_simp; done) | (go_simp; with_reducible rfl))
            try go_frame
            refine wpAnyH_take (i := 4) (oi := _) (v := undef) (by simp only [List.getElem?_toArray, List.getElem?_cons_succ, List.getElem?_cons_zero]; rfl) (by kernel_rfl) (by kernel_rfl) (by kernel_rfl) (by intro _ _ _ h; exact h) (Or.inr ⟨by rfl, rfl⟩) hHeld ?_
            try go_frame
            refine wpAnyH_take (i := 5) (oi := _) (v := undef) (by simp only [List.getElem?_toArray, List.getElem?_cons_succ, List.getElem?_cons_zero]; rfl) (by kernel_rfl) (by kernel_rfl) (by kernel_rfl) (by intro _ _ _ h; exact h) (Or.inr ⟨by rfl, rfl⟩) hHeld ?_
            try go_frame
            refine wpAnyH_take (i := 6) (oi := _) (v := undef) (by simp only [List.getElem?_toArray, List.getElem?_cons_succ, List.getElem?_cons_zero]; rfl) (by kernel_rfl) (by kernel_rfl) (by kernel_rfl) (by intro _ _ _ h; exact h) (Or.inr ⟨by rfl, rfl⟩) hHeld ?_
            try go_frame
            refine wpAnyH_take (i := 7) (oi := _) (v := undef) (by simp only [List.getElem?_toArray, List.getElem?_cons_succ, List.getElem?_cons_zero]; rfl) (by kernel_rfl) (by kernel_rfl) (by kernel_rfl) (by intro _ _ _ h; exact h) (Or.inr ⟨by rfl, rfl⟩) hHeld ?_
            try go_frame
            refine wpAnyH_take (i := 8) (oi := _) (v := undef) (by simp only [List.getElem?_toArray, List.getElem?_cons_succ, List.getElem?_cons_zero]; rfl) (by kernel_rfl) (by kernel_rfl) (by kernel_rfl) (by intro _ _ _ h; exact h) (Or.inr ⟨by rfl, rfl⟩) hHeld ?_
            try go_frame
            refine wpAnyH_take (i := 9) (oi := _) (v := undef) (by simp only [List.getElem?_toArray, List.getElem?_cons_succ, List.getElem?_cons_zero]; rfl) (by kernel_rfl) (by kernel_rfl) (by kernel_rfl) (by intro _ _ _ h; exact h) (Or.inr ⟨by rfl, rfl⟩) hHeld ?_
            try go_frame
            refine wpAnyH_take (i := 10) (oi := _) (v := undef) (by simp only [List.getElem?_toArray, List.getElem?_cons_succ, List.getElem?_cons_zero]; rfl) (by kernel_rfl) (by kernel_rfl) (by kernel_rfl) (by intro _ _ _ h; exact h) (Or.inr ⟨by rfl, rfl⟩) hHeld ?_
            try go_frame
            refine wpAnyH_take (i := 11) (oi := _) (v := ?_) (by simp only [List.getElem?_toArray, List.getElem?_cons_succ, List.getElem?_cons_zero]; rfl) (by kernel_rfl) (by kernel_rfl) (by kernel_rfl) (by intro _ _ _ h; exact h) (Or.inl ⟨by rfl, fun W hSw => ?_⟩) hHeld ?_
            rotate_left 1
            · (clear hSw; first | (go_simp; done) | (go_simp; with_reducible rfl))
            try go_frame
            refine wpAnyH_take (i := 12) (oi := _) (v := ?_) (by simp only [List.getElem?_toArray, List.getElem?_cons_succ, List.getElem?_cons_zero]; rfl) (by kernel_rfl) (by kernel_rfl) (by kernel_rfl) (by intro _ _ _ h; exact h) (Or.inl ⟨by rfl, fun W hSw => ?_⟩) hHeld ?_
            rotate_left 1
            · (clear hSw; first | (go_simp; done) | (go_simp; with_reducible rfl))
            try go_frame
            refine wpAnyH_take (i := 13) (oi := _) (v := ?_) (by simp only [List.getElem?_toArray, List.getElem?_cons_succ, List.getElem?_cons_zero]; rfl) (by kernel_rfl) (by kernel_rfl) (by kernel_rfl) (by intro _ _ _ h; exact h) (Or.inl ⟨by rfl, fun W hSw => ?_⟩) hHeld ?_
            rotate_left 1
            · (clear hSw; first | (go_simp; done) | (go_simp; with_reducible rfl))
            try go_frame
            refine wpAnyH_take (i := 14) (oi := _) (v := ?_) (by simp only [List.getElem?_toArray, List.getElem?_cons_succ, List.getElem?_cons_zero]; rfl) (by kernel_rfl) (by kernel_rfl) (by kernel_rfl) (by intro _ _ _ h; exact h) (Or.inl ⟨by rfl, fun W hSw => ?_⟩) hHeld ?_
            rotate_left 1
            · (clear hSw; first | (go_simp; done) | (go_simp; with_reducible rfl))
            try go_frame
            refine wpAnyH_take (i := 17) (oi := _) (v := ?_) (by simp only [List.getElem?_toArray, List.getElem?_cons_succ, List.getElem?_cons_zero]; rfl) (by kernel_rfl) (by kernel_rfl) (by kernel_rfl) (by intro _ _ _ h; exact h) (Or.inl ⟨by rfl, fun W hSw => ?_⟩) hHeld ?_
            rotate_left 1
            · (clear hSw; first | (go_simp; done) | (go_simp; with_reducible rfl))
            try go_frame
            refine wpAnyH_ready (rs := [15]) (by kernel_rfl) (by simp) ?_
            refine AllReadyH.cons (o := _) (by simp only [List.getElem?_toArray, List.getElem?_cons_succ, List.getElem?_cons_zero]; rfl) (fun K hK => ?_) AllReadyH.nil
            clear hHeld
            go_simp
            refine (pbytes_any _ pb mb sl L _ (show Pl wr.drew w.heap.size pb mb sl L from HP.out) (by omega) hsM.out (by omega)).mono ?_
            rintro e w10 ⟨u10, rfl, o10, b10⟩
            have hq10 : Rp w10 w.heap.size qb (.slice aq L.length cq) L := (show Rp wr.drew w.heap.size qb (.slice aq L.length cq) L from HQ.out).kpt (.of_below b10 : Kpt [] _ _) (fun x _ => by simp)
            have hB10 : Hid (Below w.heap.size w w10) := Lib.hid (hBD.out.trans (b10.mono hBD.out.size))
            clear b10
            have cq10 := hq10.cells.2.1
            refine hK.out _ _ trivial (fun hHeld => ?_)
            clear hK K
            try go_frame
            refine wpAnyH_and (T := fun W => (convert 23 9 u10).run Try.prog W = .ok (.string (tx (poolB L))) W) _ _ _ _ ?_
            replace hHeld := And.intro hHeld (conv_rd o10.rd)
            refine wpAnyH_take (i := 16) (oi := _) (v := ?_) (by simp only [List.getElem?_toArray, List.getElem?_cons_succ, List.getElem?_cons_zero]; rfl) (by kernel_rfl) (by kernel_rfl) (by kernel_rfl) (by intro _ _ _ h; exact h) (Or.inl ⟨by rfl, fun W hSw => ?_⟩) hHeld ?_
            rotate_left 1
            · (have hT := hSw.2; clear hSw; first | (go_simp; done) | (go_simp; with_reducible rfl))
            try go_frame
            refine wpAnyH_ready (rs := [18]) (by kernel_rfl) (by simp) ?_
            refine AllReadyH.cons (o := _) (by simp only [List.getElem?_toArray, List.getElem?_cons_succ, List.getElem?_cons_zero]; rfl) (fun K hK => ?_) AllReadyH.nil
            clear hHeld
            go_simp
            refine (rbytes_any _ qb _ L _ hq10 (by omega) hsM.out (by omega)).mono ?_
            rintro e w11 ⟨u11, rfl, o11, b11⟩
            replace o10 := o10.below b11 (fun g hg => (o10.lt g hg).2)
            have cq11 := (b11.cell (p := ⟨qb, 0, none⟩) hq10.cells.1).trans cq10
            have hB11 : Hid (Below w.heap.size w w11) := Lib.hid (hB10.out.trans (b11.mono hB10.out.size))
            clear b11 hq10 cq10
            refine hK.out _ _ ⟨trivial, conv_rd o10.rd⟩ (fun hHeld => ?_)
            clear hK K
            try go_frame
            refine wpAnyH_and (T := fun W => (convert 23 9 u11).run Try.prog W = .ok (.string (tx (poolB L))) W) _ _ _ _ ?_
            replace hHeld := And.intro hHeld (conv_rd o11.rd)
            refine wpAnyH_take (i := 19) (oi := _) (v := ?_) (by simp only [List.getElem?_toArray, List.getElem?_cons_succ, List.getElem?_cons_zero]; rfl) (by kernel_rfl) (by kernel_rfl) (by kernel_rfl) (by intro _ _ _ h; exact h) (Or.inl ⟨by rfl, fun W hSw => ?_⟩) hHeld ?_
            rotate_left 1
            · (have hT := hSw.2; clear hSw; first | (go_simp; done) | (go_simp; with_reducible rfl))
            try go_frame
            refine wpAnyH_take (i := 20) (oi := _) (v := ?_) (by simp only [List.getElem?_toArray, List.getElem?_cons_succ, List.getElem?_cons_zero]; rfl) (by kernel_rfl) (by kernel_rfl) (by kernel_rfl) (by intro _ _ _ h; exact h) (Or.inl ⟨by rfl, fun W hSw => ?_⟩) hHeld ?_
            rotate_left 1
            · (clear hSw; first | (go_simp; done) | (go_simp; with_reducible rfl))
            try go_frame
            refine wpAnyH_take (i := 21) (oi := _) (v := ?_) (by simp only [List.getElem?_toArray, List.getElem?_cons_succ, List.getElem?_cons_zero]; rfl) (by kernel_rfl) (by kernel_rfl) (by kernel_rfl) (by intro _ _ _ h; exact h) (Or.inl ⟨by rfl, fun W hSw => ?_⟩) hHeld ?_
            rotate_left 1
            · (clear hSw; first | (go_simp; done) | (go_simp; with_reducible rfl))
            try go_frame
            refine wpAnyH_take (i := 22) (oi := _) (v := ?_) (by simp only [List.getElem?_toArray, List.getElem?_cons_succ, List.getElem?_cons_zero]; rfl) (by kernel_rfl) (by kernel_rfl) (by kernel_rfl) (by intro _ _ _ h; exact h) (Or.inl ⟨by rfl, fun W hSw => ?_⟩) hHeld ?_
            rotate_left 1
            · (clear hSw; first | (go_simp; done) | (go_simp; with_reducible rfl))
            try go_frame
            refine wpAnyH_done (by kernel_rfl) ?_ _
            go_wp2_with fail
            go_ret
            exact ⟨rfl, hB11.out⟩
          · obtain ⟨k, rfl⟩ : ∃ k : Nat, i = k := ⟨i.toNat, by omega⟩
            go_wp2_with fail
            refine (pat_in _ pb mb sl L k _ HP.out (by omega)).mono ?_
            rintro e v ⟨rfl, rfl⟩
            have hge : decide ((0 : Int) ≤ (k : Int)) = true := decide_eq_true (by omega)
            have hlt3 : decide ((k : Int) < (L.length : Int)) = true := decide_eq_true (by omega)
            go_wp2_with fail
            refine wp_region_held_drew (S := fun _ => True) (by kernel_rfl) trivial (fun hHeld => ?_)
            refine wpAnyH_take (i := 0) (oi := _) (v := ?_) (by simp only [List.getElem?_toArray, List.getElem?_cons_zero]; rfl) (by kernel_rfl) (by kernel_rfl) (by kernel_rfl) (by intro _ _ _ h; exact h) (Or.inl ⟨by rfl, fun W hSw => ?_⟩) hHeld ?_
            rotate_left 1
            · (clear hSw; first | (go_simp; done) | (go_simp; with_reducible rfl))
            try go_frame
            refine wpAnyH_take (i := 1) (oi := _) (v := ?_) (by simp only [List.getElem?_toArray, List.getElem?_cons_succ, List.getElem?_cons_zero]; rfl) (by kernel_rfl) (by kernel_rfl) (by kernel_rfl) (by intro _ _ _ h; exact h) (Or.inl ⟨by rfl, fun W hSw => ?_⟩) hHeld ?_
            rotate_left 1
            · (clear hSw; first | (go_simp; done) | (go_simp; with_reducible rfl))
            try go_frame
            refine wpAnyH_take (i := 2) (oi := _) (v := ?_) (by simp only [List.getElem?_toArray, List.getElem?_cons_succ, List.getElem?_cons_zero]; rfl) (by kernel_rfl) (by kernel_rfl) (by kernel_rfl) (by intro _ _ _ h; exact h) (Or.inl ⟨by rfl, fun W hSw => ?_⟩) hHeld ?_
            rotate_left 1
            · (clear hSw; first | (go_simp; done) | (go_simp; with_reducible rfl))
            try go_frame
            refine wpAnyH_take (i := 3) (oi := _) (v := ?_) (by simp only [List.getElem?_toArray, List.getElem?_cons_succ, List.getElem?_cons_zero]; rfl) (by kernel_rfl) (by kernel_rfl) (by kernel_rfl) (by intro _ _ _ h; exact h) (Or.inl ⟨by rfl, fun W hSw => ?_⟩) hHeld ?_
            rotate_left 1
            · (clear hSw; first | (go_simp; done) | (go_simp; with_reducible rfl))
            try go_frame
            refine wpAnyH_take (i := 4) (oi := _) (v := ?_) (by simp only [List.getElem?_toArray, List.getElem?_cons_succ, List.getElem?_cons_zero]; rfl) (by kernel_rfl) (by kernel_rfl) (by kernel_rfl) (by intro _ _ _ h; exact h) (Or.inl ⟨by rfl, fun W hSw => ?_⟩) hHeld ?_
            rotate_left 1
            · (clear hSw; first | (go_simp; done) | (go_simp; with_reducible rfl))
            try go_frame
            refine wpAnyH_take (i := 5) (oi := _) (v := ?_) (by simp only [List.getElem?_toArray, List.getElem?_cons_succ, List.getElem?_cons_zero]; rfl) (by kernel_rfl) (by kernel_rfl) (by kernel_rfl) (by intro _ _ _ h; exact h) (Or.inl ⟨by rfl, fun W hSw => ?_⟩) hHeld ?_
            rotate_left 1
            · (clear hSw; first | (go_simp; done) | (go_simp; with_reducible rfl))
            try go_frame
            refine wpAnyH_take (i := 6) (oi := _) (v := ?_) (by simp only [List.getElem?_toArray, List.getElem?_cons_succ, List.getElem?_cons_zero]; rfl) (by kernel_rfl) (by kernel_rfl) (by kernel_rfl) (by intro _ _ _ h; exact h) (Or.inl ⟨by rfl, fun W hSw => ?_⟩) hHeld ?_
            rotate_left 1
            · (clear hSw; first | (go_simp; done) | (go_simp; with_reducible rfl))
            try go_frame
            refine wpAnyH_take (i := 7) (oi := _) (v := ?_) (by simp only [List.getElem?_toArray, List.getElem?_cons_succ, List.getElem?_cons_zero]; rfl) (by kernel_rfl) (by kernel_rfl) (by kernel_rfl) (by intro _ _ _ h; exact h) (Or.inl ⟨by rfl, fun W hSw => ?_⟩) hHeld ?_
            rotate_left 1
            · (clear hSw; first | (go_simp; done) | (go_simp; with_reducible rfl))
            try go_frame
            refine wpAnyH_and (T := fun W => W.cell? ⟨qb, 0, none⟩ = some (.slice aq L.length cq)) _ _ _ _ ?_
            replace hHeld := And.intro hHeld (cq0)
            refine wpAnyH_take (i := 8) (oi := _) (v := ?_) (by simp only [List.getElem?_toArray, List.getElem?_cons_succ, List.getElem?_cons_zero]; rfl) (by kernel_rfl) (by kernel_rfl) (by kernel_rfl) (by intro _ _ _ h; exact h) (Or.inl ⟨by rfl, fun W hSw => ?_⟩) hHeld ?_
            rotate_left 1
            · (have hT := hSw.2; clear hSw; first | (go_simp; done) | (go_simp; with_reducible rfl))
            try go_frame
            refine wpAnyH_take (i := 9) (oi := _) (v := ?_) (by simp only [List.getElem?_toArray, List.getElem?_cons_succ, List.getElem?_cons_zero]; rfl) (by kernel_rfl) (by kernel_rfl) (by kernel_rfl) (by intro _ _ _ h; exact h) (Or.inl ⟨by rfl, fun W hSw => ?_⟩) hHeld ?_
            rotate_left 1
            · (clear hSw; first | (go_simp; done) | (go_simp; with_reducible rfl))
            try go_frame
            refine wpAnyH_take (i := 10) (oi := _) (v := ?_) (by simp only [List.getElem?_toArray, List.getElem?_cons_succ, List.getElem?_cons_zero]; rfl) (by kernel_rfl) (by kernel_rfl) (by kernel_rfl) (by intro _ _ _ h; exact h) (Or.inl ⟨by rfl, fun W hSw => ?_⟩) hHeld ?_
            rotate_left 1
            · (clear hSw; first | (go_simp; done) | (go_simp; with_reducible rfl))
            try go_frame
            refine wpAnyH_take (i := 11) (oi := _) (v := ?_) (by simp only [List.getElem?_toArray, List.getElem?_cons_succ, List.getElem?_cons_zero]; rfl) (by kernel_rfl) (by kernel_rfl) (by kernel_rfl) (by intro _ _ _ h; exact h) (Or.inl ⟨by rfl, fun W hSw => ?_⟩) hHeld ?_
            rotate_left 1
            · (clear hSw; first | (go_simp; done) | (go_simp; with_reducible rfl))
            try go_frame
            refine wpAnyH_take (i := 12) (oi := _) (v := ?_) (by simp only [List.getElem?_toArray, List.getElem?_cons_succ, List.getElem?_cons_zero]; rfl) (by kernel_rfl) (by kernel_rfl) (by kernel_rfl) (by intro _ _ _ h; exact h) (Or.inl ⟨by rfl, fun W hSw => ?_⟩) hHeld ?_
            rotate_left 1
            · (clear hSw; first | (go_simp; done) | (go_simp; with_reducible rfl))
            try go_frame
            refine wpAnyH_take (i := 13) (oi := _) (v := ?_) (by simp only [List.getElem?_toArray, List.getElem?_cons_succ, List.getElem?_cons_zero]; rfl) (by kernel_rfl) (by kernel_rfl) (by kernel_rfl) (by intro _ _ _ h; exact h) (Or.inl ⟨by rfl, fun W hSw => ?_⟩) hHeld ?_
            rotate_left 1
            · (clear hSw; first | (go_simp; done) | (go_simp; with_reducible rfl))
            try go_frame
            refine wpAnyH_take (i := 14) (oi := _) (v := ?_) (by simp only [List.getElem?_toArray, List.getElem?_cons_succ, List.getElem?_cons_zero]; rfl) (by kernel_rfl) (by kernel_rfl) (by kernel_rfl) (by intro _ _ _ h; exact h) (Or.inl ⟨by rfl, fun W hSw => ?_⟩) hHeld ?_
            rotate_left 1
            · (clear hSw; first | (go_simp; done) | (go_simp; with_reducible rfl))
            try go_frame
            refine wpAnyH_take (i := 17) (oi := _) (v := ?_) (by simp only [List.getElem?_toArray, List.getElem?_cons_succ, List.getElem?_cons_zero]; rfl) (by kernel_rfl) (by kernel_rfl) (by kernel_rfl) (by intro _ _ _ h; exact h) (Or.inl ⟨by rfl, fun W hSw => ?_⟩) hHeld ?_
            rotate_left 1
            · (clear hSw; first | (go_simp; done) | (go_simp; with_reducible rfl))
            try go_frame
            refine wpAnyH_ready (rs := [15]) (by kernel_rfl) (by simp) ?_
            refine AllReadyH.cons (o := _) (by simp only [List.getElem?_toArray, List.getElem?_cons_succ, List.getElem?_cons_zero]; rfl) (fun K hK => ?_) AllReadyH.nil
            clear hHeld
            go_simp
            refine (pbytes_any _ pb mb sl L _ (show Pl wr.drew w.heap.size pb mb sl L from HP.out) (by omega) hsM.out (by omega)).mono ?_
            rintro e w10 ⟨u10, rfl, o10, b10⟩
            have hq10 : Rp w10 w.heap.size qb (.slice aq L.length cq) L := (show Rp wr.drew w.heap.size qb (.slice aq L.length cq) L from HQ.out).kpt (.of_below b10 : Kpt [] _ _) (fun x _ => by simp)
            have hB10 : Hid (Below w.heap.size w w10) := Lib.hid (hBD.out.trans (b10.mono hBD.out.size))
            clear b10
            have cq10 := hq10.cells.2.1
            refine hK.out _ _ ⟨trivial, cq10⟩ (fun hHeld => ?_)
            clear hK K
            try go_frame
            refine wpAnyH_and (T := fun W => (convert 23 9 u10).run Try.prog W = .ok (.string (tx (poolB L))) W) _ _ _ _ ?_
            replace hHeld := And.intro hHeld (conv_rd o10.rd)
            refine wpAnyH_take (i := 16) (oi := _) (v := ?_) (by simp only [List.getElem?_toArray, List.getElem?_cons_succ, List.getElem?_cons_zero]; rfl) (by kernel_rfl) (by kernel_rfl) (by kernel_rfl) (by intro _ _ _ h; exact h) (Or.inl ⟨by rfl, fun W hSw => ?_⟩) hHeld ?_
            rotate_left 1
            · (have hT := hSw.2; clear hSw; first | (go_simp; done) | (go_simp; with_reducible rfl))
            try go_frame
            refine wpAnyH_ready (rs := [18]) (by kernel_rfl) (by simp) ?_
            refine AllReadyH.cons (o := _) (by simp only [List.getElem?_toArray, List.getElem?_cons_succ, List.getElem?_cons_zero]; rfl) (fun K hK => ?_) AllReadyH.nil
            clear hHeld
            go_simp
            refine (rbytes_any _ qb _ L _ hq10 (by omega) hsM.out (by omega)).mono ?_
            rintro e w11 ⟨u11, rfl, o11, b11⟩
            replace o10 := o10.below b11 (fun g hg => (o10.lt g hg).2)
            have cq11 := (b11.cell (p := ⟨qb, 0, none⟩) hq10.cells.1).trans cq10
            have hB11 : Hid (Below w.heap.size w w11) := Lib.hid (hB10.out.trans (b11.mono hB10.out.size))
            clear b11 hq10 cq10
            refine hK.out _ _ ⟨⟨trivial, cq11⟩, conv_rd o10.rd⟩ (fun hHeld => ?_)
            clear hK K
            try go_frame
            refine wpAnyH_and (T := fun W => (convert 23 9 u11).run Try.prog W = .ok (.string (tx (poolB L))) W) _ _ _ _ ?_
            replace hHeld := And.intro hHeld (conv_rd o11.rd)
            refine wpAnyH_take (i := 19) (oi := _) (v := ?_) (by simp only [List.getElem?_toArray, List.getElem?_cons_succ, List.getElem?_cons_zero]; rfl) (by kernel_rfl) (by kernel_rfl) (by kernel_rfl) (by intro _ _ _ h; exact h) (Or.inl ⟨by rfl, fun W hSw => ?_⟩) hHeld ?_
            rotate_left 1
            · (have hT := hSw.2; clear hSw; first | (go_simp; done) | (go_simp; with_reducible rfl))
            try go_frame
            refine wpAnyH_take (i := 20) (oi := _) (v := ?_) (by simp only [List.getElem?_toArray, List.getElem?_cons_succ, List.getElem?_cons_zero]; rfl) (by kernel_rfl) (by kernel_rfl) (by kernel_rfl) (by intro _ _ _ h; exact h) (Or.inl ⟨by rfl, fun W hSw => ?_⟩) hHeld ?_
            rotate_left 1
            · (clear hSw; first | (go_simp; done) | (go_simp; with_reducible rfl))
            try go_frame
            refine wpAnyH_take (i := 21) (oi := _) (v := ?_) (by simp only [List.getElem?_toArray, List.getElem?_cons_succ, List.getElem?_cons_zero]; rfl) (by kernel_rfl) (by kernel_rfl) (by kernel_rfl) (by intro _ _ _ h; exact h) (Or.inl ⟨by rfl, fun W hSw => ?_⟩) hHeld ?_
            rotate_left 1
            · (clear hSw; first | (go_simp; done) | (go_simp; with_reducible rfl))
            try go_frame
            refine wpAnyH_take (i := 22) (oi := _) (v := ?_) (by simp only [List.getElem?_toArray, List.getElem?_cons_succ, List.getElem?_cons_zero]; rfl) (by kernel_rfl) (by kernel_rfl) (by kernel_rfl) (by intro _ _ _ h; exact h) (Or.inl ⟨by rfl, fun W hSw => ?_⟩) hHeld ?_
            rotate_left 1
            · (clear hSw; first | (go_simp; done) | (go_simp; with_reducible rfl))
            try go_frame
            refine wpAnyH_done (by kernel_rfl) ?_ _
            go_wp2_with fail
            go_ret
            exact ⟨rfl, hB11.out⟩
          · go_wp2_with fail
            refine (pat_out _ pb mb sl L i _ HP.out (.inr hc2)).mono ?_
            rintro e v ⟨rfl, rfl⟩
            have hge : decide ((0 : Int) ≤ i) = true := decide_eq_true (by omega)
            have hlt3 : decide (i < (L.length : Int)) = false := decide_eq_false (by omega)
            go_wp2_with fail
            refine wp_region_held_drew (S := fun _ => True) (by kernel_rfl) trivial (fun hHeld => ?_)
            refine wpAnyH_take (i := 0) (oi := _) (v := ?_) (by simp only [List.getElem?_toArray, List.getElem?_cons_zero]; rfl) (by kernel_rfl) (by kernel_rfl) (by kernel_rfl) (by intro _ _ _ h; exact h) (Or.inl ⟨by rfl, fun W hSw => ?_⟩) hHeld ?_
            rotate_left 1
            · (clear hSw; first | (go_simp; done) | (go_simp; with_reducible rfl))
            try go_frame
            refine wpAnyH_take (i := 1) (oi := _) (v := ?_) (by simp only [List.getElem?_toArray, List.getElem?_cons_succ, List.getElem?_cons_zero]; rfl) (by kernel_rfl) (by kernel_rfl) (by kernel_rfl) (by intro _ _ _ h; exact h) (Or.inl ⟨by rfl, fun W hSw => ?_⟩) hHeld ?_
            rotate_left 1
            · (clear hSw; first | (go_simp; done) | (go_simp; with_reducible rfl))
            try go_frame
            refine wpAnyH_take (i := 2) (oi := _) (v := ?_) (by simp only [List.getElem?_toArray, List.getElem?_cons_succ, List.getElem?_cons_zero]; rfl) (by kernel_rfl) (by kernel_rfl) (by kernel_rfl) (by intro _ _ _ h; exact h) (Or.inl ⟨by rfl, fun W hSw => ?_⟩) hHeld ?_
            rotate_left 1
            · (clear hSw; first | (go_simp; done) | (go_simp; with_reducible rfl))
            try go_frame
            refine wpAnyH_take (i := 3) (oi := _) (v := ?_) (by simp only [List.getElem?_toArray, List.getElem?_cons_succ, List.getElem?_cons_zero]; rfl) (by kernel_rfl) (by kernel_rfl) (by kernel_rfl) (by intro _ _ _ h; exact h) (Or.inl ⟨by rfl, fun W hSw => ?_⟩) hHeld ?_
            rotate_left 1
            · (clear hSw; first | (go_simp; done) | (go_simp; with_reducible rfl))
            try go_frame
            refine wpAnyH_take (i := 4) (oi := _) (v := ?_) (by simp only [List.getElem?_toArray, List.getElem?_cons_succ, List.getElem?_cons_zero]; rfl) (by kernel_rfl) (by kernel_rfl) (by kernel_rfl) (by intro _ _ _ h; exact h) (Or.inl ⟨by rfl, fun W hSw => ?_⟩) hHeld ?_
            rotate_left 1
            · (clear hSw; first | (go_simp; done) | (go_simp; with_reducible rfl))
            try go_frame
            refine wpAnyH_take (i := 5) (oi := _) (v := ?_) (by simp only [List.getElem?_toArray, List.getElem?_cons_succ, List.getElem?_cons_zero]; rfl) (by kernel_rfl) (by kernel_rfl) (by kernel_rfl) (by intro _ _ _ h; exact h) (Or.inl ⟨by rfl, fun W hSw => ?_⟩) hHeld ?_
            rotate_left 1
            · (clear hSw; first | (go_simp; done) | (go_simp; with_reducible rfl))
            try go_frame
            refine wpAnyH_take (i := 6) (oi := _) (v := ?_) (by simp only [List.getElem?_toArray, List.getElem?_cons_succ, List.getElem?_cons_zero]; rfl) (by kernel_rfl) (by kernel_rfl) (by kernel_rfl) (by intro _ _ _ h; exact h) (Or.inl ⟨by rfl, fun W hSw => ?_⟩) hHeld ?_
            rotate_left 1
            · (clear hSw; first | (go_simp; done) | (go_simp; with_reducible rfl))
            try go_frame
            refine wpAnyH_take (i := 7) (oi := _) (v := ?_) (by simp only [List.getElem?_toArray, List.getElem?_cons_succ, List.getElem?_cons_zero]; rfl) (by kernel_rfl) (by kernel_rfl) (by kernel_rfl) (by intro _ _ _ h; exact h) (Or.inl ⟨by rfl, fun W hSw => ?_⟩) hHeld ?_
            rotate_left 1
            · (clear hSw; first | (go_simp; done) | (go_simp; with_reducible rfl))
            try go_frame
            refine wpAnyH_and (T := fun W => W.cell? ⟨qb, 0, none⟩ = some (.slice aq L.length cq)) _ _ _ _ ?_
            replace hHeld := And.intro hHeld (cq0)
            refine wpAnyH_take (i := 8) (oi := _) (v := ?_) (by simp only [List.getElem?_toArray, List.getElem?_cons_succ, List.getElem?_cons_zero]; rfl) (by kernel_rfl) (by kernel_rfl) (by kernel_rfl) (by intro _ _ _ h; exact h) (Or.inl ⟨by rfl, fun W hSw => ?_⟩) hHeld ?_
            rotate_left 1
            · (have hT := hSw.2; clear hSw; first | (go_simp; done) | (go_simp; with_reducible rfl))
            try go_frame
            refine wpAnyH_take (i := 9) (oi := _) (v := ?_) (by simp only [List.getElem?_toArray, List.getElem?_cons_succ, List.getElem?_cons_zero]; rfl) (by kernel_rfl) (by kernel_rfl) (by kernel_rfl) (by intro _ _ _ h; exact h) (Or.inl ⟨by rfl, fun W hSw => ?_⟩) hHeld ?_
            rotate_left 1
            · (clear hSw; first | (go_simp; done) | (go_simp; with_reducible rfl))
            try go_frame
            refine wpAnyH_take (i := 10) (oi := _) (v := ?_) (by simp only [List.getElem?_toArray, List.getElem?_cons_succ, List.getElem?_cons_zero]; rfl) (by kernel_rfl) (by kernel_rfl) (by kernel_rfl) (by intro _ _ _ h; exact h) (Or.inl ⟨by rfl, fun W hSw => ?_⟩) hHeld ?_
            rotate_left 1
            · (clear hSw; first | (go_simp; done) | (go_simp; with_reducible rfl))
            try go_frame
            refine wpAnyH_take (i := 11) (oi := _) (v := ?_) (by simp only [List.getElem?_toArray, List.getElem?_cons_succ, List.getElem?_cons_zero]; rfl) (by kernel_rfl) (by kernel_rfl) (by kernel_rfl) (by intro _ _ _ h; exact h) (Or.inl ⟨by rfl, fun W hSw => ?_⟩) hHeld ?_
            rotate_left 1
            · (clear hSw; first | (go_simp; done) | (go_simp; with_reducible rfl))
            try go_frame
            refine wpAnyH_take (i := 12) (oi := _) (v := ?_) (by simp only [List.getElem?_toArray, List.getElem?_cons_succ, List.getElem?_cons_zero]; rfl) (by kernel_rfl) (by kernel_rfl) (by kernel_rfl) (by intro _ _ _ h; exact h) (Or.inl ⟨by rfl, fun W hSw => ?_⟩) hHeld ?_
            rotate_left 1
            · (clear hSw; first | (go_simp; done) | (go_simp; with_reducible rfl))
            try go_frame
            refine wpAnyH_take (i := 13) (oi := _) (v := ?_) (by simp only [List.getElem?_toArray, List.getElem?_cons_succ, List.getElem?_cons_zero]; rfl) (by kernel_rfl) (by kernel_rfl) (by kernel_rfl) (by intro _ _ _ h; exact h) (Or.inl ⟨by rfl, fun W hSw => ?_⟩) hHeld ?_
            rotate_left 1
            · (clear hSw; first | (go_simp; done) | (go_simp; with_reducible rfl))
            try go_frame
            refine wpAnyH_take (i := 14) (oi := _) (v := ?_) (by simp only [List.getElem?_toArray, List.getElem?_cons_succ, List.getElem?_cons_zero]; rfl) (by kernel_rfl) (by kernel_rfl) (by kernel_rfl) (by intro _ _ _ h; exact h) (Or.inl ⟨by rfl, fun W hSw => ?_⟩) hHeld ?_
            rotate_left 1
            · (clear hSw; first | (go_simp; done) | (go_simp; with_reducible rfl))
            try go_frame
            refine wpAnyH_take (i := 17) (oi := _) (v := ?_) (by simp only [List.getElem?_toArray, List.getElem?_cons_succ, List.getElem?_cons_zero]; rfl) (by kernel_rfl) (by kernel_rfl) (by kernel_rfl) (by intro _ _ _ h; exact h) (Or.inl ⟨by rfl, fun W hSw => ?_⟩) hHeld ?_
            rotate_left 1
            · (clear hSw; first | (go_simp; done) | (go_simp; with_reducible rfl))
            try go_frame
            refine wpAnyH_ready (rs := [15]) (by kernel_rfl) (by simp) ?_
            refine AllReadyH.cons (o := _) (by simp only [List.getElem?_toArray, List.getElem?_cons_succ, List.getElem?_cons_zero]; rfl) (fun K hK => ?_) AllReadyH.nil
            clear hHeld
            go_simp
            refine (pbytes_any _ pb mb sl L _ (show Pl wr.drew w.heap.size pb mb sl L from HP.out) (by omega) hsM.out (by omega)).mono ?_
            rintro e w10 ⟨u10, rfl, o10, b10⟩
            have hq10 : Rp w10 w.heap.size qb (.slice aq L.length cq) L := (show Rp wr.drew w.heap.size qb (.slice aq L.length cq) L from HQ.out).kpt (.of_below b10 : Kpt [] _ _) (fun x _ => by simp)
            have hB10 : Hid (Below w.heap.size w w10) := Lib.hid (hBD.out.trans (b10.mono hBD.out.size))
            clear b10
            have cq10 := hq10.cells.2.1
            refine hK.out _ _ ⟨trivial, cq10⟩ (fun hHeld => ?_)
            clear hK K
            try go_frame
            refine wpAnyH_and (T := fun W => (convert 23 9 u10).run Try.prog W = .ok (.string (tx (poolB L))) W) _ _ _ _ ?_
            replace hHeld := And.intro hHeld (conv_rd o10.rd)
            refine wpAnyH_take (i := 16) (oi := _) (v := ?_) (by simp only [List.getElem?_toArray, List.getElem?_cons_succ, List.getElem?_cons_zero]; rfl) (by kernel_rfl) (by kernel_rfl) (by kernel_rfl) (by intro _ _ _ h; exact h) (Or.inl ⟨by rfl, fun W hSw => ?_⟩) hHeld ?_
            rotate_left 1
            · (have hT := hSw.2; clear hSw; first | (go_simp; done) | (go_simp; with_reducible rfl))
            try go_frame
            refine wpAnyH_ready (rs := [18]) (by kernel_rfl) (by simp) ?_
            refine AllReadyH.cons (o := _) (by simp only [List.getElem?_toArray, List.getElem?_cons_succ, List.getElem?_cons_zero]; rfl) (fun K hK => ?_) AllReadyH.nil
            clear hHeld
            go_simp
            refine (rbytes_any _ qb _ L _ hq10 (by omega) hsM.out (by omega)).mono ?_
            rintro e w11 ⟨u11, rfl, o11, b11⟩
            replace o10 := o10.below b11 (fun g hg => (o10.lt g hg).2)
            have cq11 := (b11.cell (p := ⟨qb, 0, none⟩) hq10.cells.1).trans cq10
            have hB11 : Hid (Below w.heap.size w w11) := Lib.hid (hB10.out.trans (b11.mono hB10.out.size))
            clear b11 hq10 cq10
            refine hK.out _ _ ⟨⟨trivial, cq11⟩, conv_rd o10.rd⟩ (fun hHeld => ?_)
            clear hK K
            try go_frame
            refine wpAnyH_and (T := fun W => (convert 23 9 u11).run Try.prog W = .ok (.string (tx (poolB L))) W) _ _ _ _ ?_
            replace hHeld := And.intro hHeld (conv_rd o11.rd)
            refine wpAnyH_take (i := 19) (oi := _) (v := ?_) (by simp only [List.getElem?_toArray, List.getElem?_cons_succ, List.getElem?_cons_zero]; rfl) (by kernel_rfl) (by kernel_rfl) (by kernel_rfl) (by intro _ _ _ h; exact h) (Or.inl ⟨by rfl, fun W hSw => ?_⟩) hHeld ?_
            rotate_left 1
            · (have hT := hSw.2; clear hSw; first | (go_simp; done) | (go_simp; with_reducible rfl))
            try go_frame
            refine wpAnyH_take (i := 20) (oi := _) (v := ?_) (by simp only [List.getElem?_toArray, List.getElem?_cons_succ, List.getElem?_cons_zero]; rfl) (by kernel_rfl) (by kernel_rfl) (by kernel_rfl) (by intro _ _ _ h; exact h) (Or.inl ⟨by rfl, fun W hSw => ?_⟩) hHeld ?_
            rotate_left 1
            · (clear hSw; first | (go_simp; done) | (go_simp; with_reducible rfl))
            try go_frame
            refine wpAnyH_take (i := 21) (oi := _) (v := ?_) (by simp only [List.getElem?_toArray, List.getElem?_cons_succ, List.getElem?_cons_zero]; rfl) (by kernel_rfl) (by kernel_rfl) (by kernel_rfl) (by intro _ _ _ h; exact h) (Or.inl ⟨by rfl, fun W hSw => ?_⟩) hHeld ?_
            rotate_left 1
            · (clear hSw; first | (go_simp; done) | (go_simp; with_reducible rfl))
            try go_frame
            refine wpAnyH_take (i := 22) (oi := _) (v := ?_) (by simp only [List.getElem?_toArray, List.getElem?_cons_succ, List.getElem?_cons_zero]; rfl) (by kernel_rfl) (by kernel_rfl) (by kernel_rfl) (by intro _ _ _ h; exact h) (Or.inl ⟨by rfl, fun W hSw => ?_⟩) hHeld ?_
            rotate_left 1
            · (clear hSw; first | (go_simp; done) | (go_simp; with_reducible rfl))
            try go_frame
            refine wpAnyH_done (by kernel_rfl) ?_ _
            go_wp2_with fail
            go_ret
            exact ⟨rfl, hB11.out⟩

end Go.Proofs.Ytnpbhpidciiciaa
