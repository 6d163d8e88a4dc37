/- PoolBack: a Pool that is read again has the same numbers, and goes on. -/
import Derived.Test.YtnpbhpidciiciaaPOpen
import Derived.Deep.RegionHeld3
namespace Go.Proofs.Ytnpbhpidciiciaa
open Go.RowKit Go.Maps

theorem tbs_lenB {M : Nat} (hM : M ≤ 10000) : ∀ L : List ByteArray, (∀ s ∈ L, s.size ≤ M) → (tbs L).length ≤ L.length * (M + 10)
  | [], _ => by simp [tbs]
  | s :: L, h => by
    have h1 := h s (by simp)
    have h2 := tb_len (s := s) (by omega)
    have ih := tbs_lenB hM L (fun x hx => h x (by simp [hx]))
    rw [tbs_cons, List.length_append, List.length_cons, Nat.succ_mul]
    omega

theorem putL_size {L : List ByteArray} {s : ByteArray} {M : Nat} (h : ∀ x ∈ L, x.size ≤ M) (hs : s.size ≤ M) : ∀ x ∈ putL L s, x.size ≤ M := by
  intro x hx
  unfold putL at hx
  split at hx
  · exact h x hx
  · rcases List.mem_append.1 hx with h1 | h1
    · exact h x h1
    · rw [List.mem_singleton.1 h1]; exact hs

theorem putL_keep {L : List ByteArray} {s x : ByteArray} (h : x ∈ L) : x ∈ putL L s := by
  unfold putL
  split
  · exact h
  · exact List.mem_append_left _ h

theorem pos_putL (L : List ByteArray) (s : ByteArray) : pos (putL L s) s = pos L s := by
  unfold putL
  by_cases h : s ∈ L
  · rw [if_pos h]
  · rw [if_neg h, pos_new h, pos_not h]

set_option maxHeartbeats 1000000 in
set_option maxRecDepth 100000 in
theorem back_long (p : Option Addr) (len cap : Nat) (m : ByteArray) (w : World) (h : 20 < len ∨ 60 < m.size) (hm : len ≤ 9223372036854775807) (hm2 : m.size ≤ 9223372036854775807) :
    Calls Try.prog 7 #[.slice p len cap, .string m] w fun e w' => e = .returned (.bool true) ∧ Below w.heap.size w w' := by
  by_cases h20 : 20 < len
  all_goals
    go_enter Try.func7, Try.ntmps7
    go_wp2_with fail
    refine (known_any _).mono ?_
    rintro e w1 ⟨rfl, hB1⟩
    go_wp2
    go_ret
    exact ⟨rfl, hB1⟩

set_option maxHeartbeats 2000000 in
set_option maxRecDepth 100000 in
theorem back_short (p : Option Addr) (len cap : Nat) (m : ByteArray) (Z : Nat → ByteArray) (w : World) (hlen : len ≤ 20) (hm : m.size ≤ 60)
    (hz : 0 < len → ∃ b off, p = some ⟨b, off, none⟩ ∧ len ≤ cap ∧ RowAt w b off len (fun i => .string (Z i))) (hzs : ∀ i, i < len → (Z i).size ≤ 9223372036854775807) :
    Calls Try.prog 7 #[.slice p len cap, .string m] w fun e w' => e = .returned (.bool true) ∧ Below w.heap.size w w' := by
  go_enter Try.func7, Try.ntmps7
  go_wp2_with fail
  refine (known_any _).mono ?_
  rintro e w1 ⟨rfl, hB1⟩
  have hs1 := hB1.size
  go_wp2_with fail
  refine (pnew_any _).mono ?_
  rintro e w2 ⟨pb, mb, rfl, hp2, hb2⟩
  have hB2 : Below w.heap.size w w2 := hB1.trans (hb2.mono hs1)
  have hp3 := hp2.mono hs1
  clear hb2 hp2 hs1 hB1
  go_wp2
  go_loopw [6] (fun i wr => ∃ (k : Nat) (sl : Value) (L : List ByteArray), i = .int .i64 k ∧ k ≤ len ∧ L.length ≤ k ∧ Hid ((∀ s ∈ L, s.size ≤ 60) ∧ ∀ j, j < k → Z j ∈ L ∧ (Z j).size ≤ 60) ∧ Pl wr w.heap.size pb mb sl L ∧ Below w.heap.size w wr) (fun i _ => len - (intOf i).toNat)
  case atStart => exact ⟨0, _, [], rfl, Nat.zero_le _, Nat.le_refl _, Lib.hid ⟨fun s h => by simp at h, fun j h => by omega⟩, hp3, hB2⟩
  case round =>
    clear hp3 hB2
    obtain ⟨k, sl, L, rfl, hkl, hLk, HL, hp, hB⟩ := hrel
    have hs := hB.size
    by_cases hlt : k < len
    · obtain ⟨b, off, rfl, hlc, hrow⟩ := hz (by omega)
      have hcell : wr.cell? ⟨b, off + k, none⟩ = some (.string (Z k)) := hrow.below hB hlt
      have hzk := hzs k hlt
      by_cases hbig : 60 < (Z k).size
      · clear hrow
        go_wp2
        go_ret
        exact ⟨rfl, hB⟩
      · have hZ2 : (Z k).size ≤ 60 := by omega
        clear hrow
        go_wp2_with fail
        refine (pput_any _ pb mb sl L (Z k) _ hp hs (by omega) (by omega)).mono ?_
        rintro e w5 ⟨sl5, rfl, hp5, hk5, _⟩
        have hB5 : Below w.heap.size w w5 := hB.trans (hk5.below (fun x hx => (hp.lt x hx).1) hs)
        have hl5 := putL_len L (Z k)
        have HL5 : Hid ((∀ s ∈ putL L (Z k), s.size ≤ 60) ∧ ∀ j, j < k + 1 → Z j ∈ putL L (Z k) ∧ (Z j).size ≤ 60) := Lib.hid ⟨putL_size HL.out.1 hZ2, fun j hj => by
          by_cases e : j = k
          · subst e; exact ⟨putL_mem _ _, hZ2⟩
          · have := HL.out.2 j (by omega)
            exact ⟨putL_keep this.1, this.2⟩⟩
        clear hk5 hp hB hs hcell
        go_wp2
        go_roundw
        case rel => exact ⟨k + 1, sl5, putL L (Z k), by go_num, by omega, by omega, HL5, hp5, hB5⟩
        case measure => simp [intOf]; omega
    · obtain rfl : k = len := by omega
      have hT := tbs_lenB (M := 60) (by decide) L HL.out.1
      have hpl : (poolB L).length ≤ 6000 := by
        unfold poolB
        rw [List.length_append]
        have := nb_len10 (v := L.length) (by omega)
        omega
      go_wp2_with fail
      refine (plen_any _ pb mb sl L _ hp).mono ?_
      rintro e wl ⟨rfl, rfl⟩
      go_wp2_with fail
      refine (pbytes_any _ pb mb sl L _ hp (by omega) (fun s h => Nat.le_trans (HL.out.1 s h) (by decide)) (by omega)).mono ?_
      rintro e w4 ⟨v4, rfl, ho4, hb4⟩
      have hB4 : Below w.heap.size w w4 := hB.trans (hb4.mono hs)
      have hs4 := hB4.size
      have hp4 : Pl w4 w.heap.size pb mb sl L := hp.kpt (.of_below hb4 : Kpt [] _ _) (fun x _ => by simp)
      clear hb4 hp hB hs hT
      go_wp2_with fail
      refine (new_any v4 _ _ ho4.rd (.inr fun g hg => (ho4.lt g hg).2) (by omega)).mono ?_
      rintro e w5 ⟨rb, rfl, hr5, hb5⟩
      have hB5 : Below w.heap.size w w5 := hB4.trans (hb5.mono hs4)
      have hs5 := hB5.size
      have hp5 : Pl w5 w.heap.size pb mb sl L := hp4.kpt (.of_below hb5 : Kpt [] _ _) (fun x _ => by simp)
      have hrb : w4.heap.size ≤ rb := hr5.1
      clear hb5 ho4 hB4
      go_wp2_with fail
      refine (pread_any _ rb _ 0 0 L (0 + (poolB L).length) 0 _ (poolR_back (r := []) (by simp) (by omega) (fun s h => Nat.le_trans (HL.out.1 s h) (by decide))) hr5 (by decide) (by omega)).mono ?_
      rintro e w6 ⟨hans, _, hk6⟩
      unfold ReadAns at hans
      rw [if_pos rfl] at hans
      obtain ⟨qb, nbk, sq, rfl, hq6⟩ := hans
      have hB6 : Below w.heap.size w w6 := hB5.trans (hk6.below (fun x hx => by simp at hx; omega) hs5)
      have hs6 := hB6.size
      have hp6 : Pl w6 w.heap.size pb mb sl L := hp5.kpt hk6 (fun x hx => by have := (hp4.lt x hx).2; simp; omega)
      have hap : ∀ x ∈ fp pb mb sl, x ∉ fp qb nbk sq := fun x hx hy => by
        have h1 := (hp5.lt x hx).2
        have h2 := (hq6.lt x hy).1
        omega
      have hq7 := hq6.mono hs5
      clear hk6 hr5 hq6 hp5 hp4 hB5
      go_wp2_with fail
      refine (plen_any _ qb nbk sq L _ hq7).mono ?_
      rintro e wl ⟨rfl, rfl⟩
      have HP6 := Lib.hid hp6
      have HQ6 := Lib.hid hq7
      have HB6 := Lib.hid hB6
      have HZ := Lib.hid hz
      clear hp6 hq7 hz hzs hB6
      go_wp2
      go_loopw [10] (fun i wr => ∃ j : Nat, i = .int .i64 j ∧ j ≤ k ∧ Hid (Kpt [] w6 wr)) (fun i _ => k - (intOf i).toNat)
      case atStart => exact ⟨0, rfl, Nat.zero_le _, Lib.hid (Kpt.refl _ _)⟩
      case round =>
        obtain ⟨j, rfl, hjk, HK⟩ := hrel
        by_cases hlt2 : j < k
        · obtain ⟨b, off, rfl, hlc, hrow⟩ := HZ.out (by omega)
          have hkD : Kpt [] w6 wr.drew := HK.out.drew
          have hcell6 : w6.cell? ⟨b, off + j, none⟩ = some (.string (Z j)) := hrow.below HB6.out hlt2
          have hcell : wr.cell? ⟨b, off + j, none⟩ = some (.string (Z j)) := (World.cell?_of_block (w := w6) (HK.out.2 b (World.block_lt_of_cell? _ _ hcell6) (by simp))).trans hcell6
          have hcellD : wr.drew.cell? ⟨b, off + j, none⟩ = some (.string (Z j)) := hcell
          have HC : Hid (∀ (v : World) (x : Nat), (x = pb ∨ x = qb) → Kpt [] w6 v → Calls Try.prog 10 #[.pointer (some ⟨x, 0, none⟩), .string (Z j)] v fun e v' => e = .returned (.int .i64 (pos L (Z j))) ∧ v = v') := Lib.hid (fun v x hx hv => by
            have hzj := HL.out.2 j hlt2
            rcases hx with rfl | rfl
            · exact pput_in _ _ mb sl L (Z j) v (HP6.out.kpt hv (fun x _ => by simp)) (by omega) hzj.1
            · exact pput_in _ _ nbk sq L (Z j) v (HQ6.out.kpt hv (fun x _ => by simp)) (by omega) hzj.1)
          have HKD := Lib.hid hkD
          clear hrow hcell6 hkD
          go_wp2_with fail
          go_region_held3 (fun w' => w'.cell? ⟨b, off + j, none⟩ = some (.string (Z j))) (first | exact hcellD | exact hcell) (first | (go_at_call 10; refine (HC.out _ _ (by first | exact .inl rfl | exact .inr rfl) HKD.out).mono ?_; rintro e v ⟨rfl, rfl⟩))
          go_wp2_with fail
          go_roundw
          case rel => exact ⟨j + 1, by go_num, by omega, HKD⟩
          case measure => simp [intOf]; omega
        · have hp7 := HP6.out.kpt HK.out (fun x _ => by simp)
          have hq7 := HQ6.out.kpt HK.out (fun x _ => by simp)
          have hB7 : Below w.heap.size w wr := HB6.out.trans (HK.out.below (fun x h => by simp at h) hs6)
          have hs7 := hB7.size
          have hltq := fun x hx => (hq7.lt x hx).2
          go_wp2_with fail
          refine (pput_any _ pb mb sl L m _ hp7 hs7 (by omega) (by omega)).mono ?_
          rintro e w8 ⟨sl8, rfl, hp8, hk8, hf8⟩
          have hq8 : Pl w8 w.heap.size qb nbk sq L := hq7.kpt hk8 (fun x hx h => hap x h hx)
          have hB8 : Below w.heap.size w w8 := hB7.trans (hk8.below (fun x hx => (hp7.lt x hx).1) hs7)
          have hs8 := hB8.size
          have hap8 : ∀ x ∈ fp pb mb sl8, x ∉ fp qb nbk sq := fun x hx hy => by
            rcases On.fresh ⟨hp8, hk8, hf8⟩ x hx with h | h
            · exact hap x h hy
            · have := hltq x hy; omega
          clear hk8 hf8 hp7 hq7 hltq
          go_wp2_with fail
          refine (pput_any _ qb nbk sq L m _ hq8 hs8 (by omega) (by omega)).mono ?_
          rintro e w9 ⟨sq9, rfl, hq9, hk9, _⟩
          have hp9 : Pl w9 w.heap.size pb mb sl8 (putL L m) := hp8.kpt hk9 hap8
          have hB9 : Below w.heap.size w w9 := hB8.trans (hk9.below (fun x hx => (hq8.lt x hx).1) hs8)
          have hs9 := hB9.size
          have hlM := putL_len L m
          have hzM := putL_size HL.out.1 hm
          have hxM : pos L m < (putL L m).length := by
            have := pos_lt (putL_mem L m)
            rwa [pos_putL] at this
          obtain ⟨M, hM⟩ : ∃ M, M = putL L m := ⟨_, rfl⟩
          obtain ⟨x0, hx0⟩ : ∃ x0, x0 = pos L m := ⟨_, rfl⟩
          rw [← hM] at hp9 hq9 hlM hzM hxM
          rw [← hx0] at hxM
          rw [← hx0]
          have hTM := tbs_lenB (M := 60) (by decide) M hzM
          have hsM : Hid (∀ s ∈ M, s.size ≤ 10000) := Lib.hid (fun s h => Nat.le_trans (hzM s h) (by decide))
          have HLen : Hid (∀ (x : Nat), (x = pb ∨ x = qb) → Calls Try.prog 12 #[.pointer (some ⟨x, 0, none⟩)] w9.drew fun e v' => e = .returned (.int .i64 M.length) ∧ w9.drew = v') := Lib.hid (fun x hx => by
            rcases hx with rfl | rfl
            · exact plen_any _ _ mb sl8 M w9.drew hp9
            · exact plen_any _ _ nbk sq9 M w9.drew hq9)
          have HBy : Hid (∀ (v : World) (x : Nat), (x = pb ∨ x = qb) → Kpt [] w9 v → Calls Try.prog 14 #[.pointer (some ⟨x, 0, none⟩)] v fun e v' => ∃ u, e = .returned u ∧ Own v' v.heap.size u (poolB M) ∧ Below v.heap.size v v') := Lib.hid (fun v x hx hv => by
            rcases hx with rfl | rfl
            · exact pbytes_any _ _ mb sl8 M v (hp9.kpt hv (fun x _ => by simp)) (by omega) hsM.out (by omega)
            · exact pbytes_any _ _ nbk sq9 M v (hq9.kpt hv (fun x _ => by simp)) (by omega) hsM.out (by omega))
          have HK9 : Hid (Kpt [] w9 w9.drew) := Lib.hid (Kpt.refl _ _).drew
          have HB9 : Hid (Below w.heap.size w w9.drew) := Lib.hid hB9.drew
          have hxd : decide ((x0 : Int) < (M.length : Int)) = true := decide_eq_true (by omega)
          clear hk9 hp8 hq8 hB8 hs8 hap8 hM hx0 hzM hTM hp9 hq9 hB9 hap HP6 HQ6 HB6 HZ HL
          go_wp2_with fail
          refine wp_region_held_drew (S := fun _ => True) (by kernel_rfl) trivial (fun hHeld => ?_)
          refine wpAnyH_take (i := 0) (oi := _) (v := ?_) (by rfl) (by kernel_rfl) (by kernel_rfl) (by kernel_rfl) (by intro _ _ _ h; exact h) (Or.inl ⟨by rfl, fun W hSw => ?_⟩) hHeld ?_
          rotate_left 1
          · (clear hSw; first | (go_simp; done) | (go_simp; with_reducible rfl))
          try go_frame
          refine wpAnyH_take (i := 1) (oi := _) (v := ?_) (by simp only [List.getElem?_toArray, List.getElem?_cons_succ, List.getElem?_cons_zero]; rfl) (by kernel_rfl) (by kernel_rfl) (by kernel_rfl) (by intro _ _ _ h; exact h) (Or.inl ⟨by rfl, fun W hSw => ?_⟩) hHeld ?_
          rotate_left 1
          · (clear hSw; first | (go_simp; done) | (go_simp; with_reducible rfl))
          try go_frame
          refine wpAnyH_take (i := 2) (oi := _) (v := ?_) (by simp only [List.getElem?_toArray, List.getElem?_cons_succ, List.getElem?_cons_zero]; rfl) (by kernel_rfl) (by kernel_rfl) (by kernel_rfl) (by intro _ _ _ h; exact h) (Or.inl ⟨by rfl, fun W hSw => ?_⟩) hHeld ?_
          rotate_left 1
          · (clear hSw; first | (go_simp; done) | (go_simp; with_reducible rfl))
          try go_frame
          refine wpAnyH_take (i := 3) (oi := _) (v := ?_) (by simp only [List.getElem?_toArray, List.getElem?_cons_succ, List.getElem?_cons_zero]; rfl) (by kernel_rfl) (by kernel_rfl) (by kernel_rfl) (by intro _ _ _ h; exact h) (Or.inl ⟨by rfl, fun W hSw => ?_⟩) hHeld ?_
          rotate_left 1
          · (clear hSw; first | (go_simp; done) | (go_simp; with_reducible rfl))
          try go_frame
          refine wpAnyH_take (i := 4) (oi := _) (v := ?_) (by simp only [List.getElem?_toArray, List.getElem?_cons_succ, List.getElem?_cons_zero]; rfl) (by kernel_rfl) (by kernel_rfl) (by kernel_rfl) (by intro _ _ _ h; exact h) (Or.inl ⟨by rfl, fun W hSw => ?_⟩) hHeld ?_
          rotate_left 1
          · (clear hSw; first | (go_simp; done) | (go_simp; with_reducible rfl))
          try go_frame
          refine wpAnyH_take (i := 6) (oi := _) (v := ?_) (by simp only [List.getElem?_toArray, List.getElem?_cons_succ, List.getElem?_cons_zero]; rfl) (by kernel_rfl) (by kernel_rfl) (by kernel_rfl) (by intro _ _ _ h; exact h) (Or.inl ⟨by rfl, fun W hSw => ?_⟩) hHeld ?_
          rotate_left 1
          · (clear hSw; first | (go_simp; done) | (go_simp; with_reducible rfl))
          try go_frame
          refine wpAnyH_ready (rs := [5]) (by kernel_rfl) (by simp) ?_
          refine AllReadyH.cons (o := _) (by simp only [List.getElem?_toArray, List.getElem?_cons_succ, List.getElem?_cons_zero]; rfl) (fun K hK => ?_) AllReadyH.nil
          clear hHeld
          go_simp
          refine (HLen.out _ (by first | exact .inl rfl | exact .inr rfl)).mono ?_
          rintro e v ⟨rfl, rfl⟩
          refine hK.out _ _ trivial (fun hHeld => ?_)
          clear hK K
          try go_frame
          refine wpAnyH_ready (rs := [7]) (by kernel_rfl) (by simp) ?_
          refine AllReadyH.cons (o := _) (by simp only [List.getElem?_toArray, List.getElem?_cons_succ, List.getElem?_cons_zero]; rfl) (fun K hK => ?_) AllReadyH.nil
          clear hHeld
          go_simp
          refine (HLen.out _ (by first | exact .inl rfl | exact .inr rfl)).mono ?_
          rintro e v ⟨rfl, rfl⟩
          refine hK.out _ _ trivial (fun hHeld => ?_)
          clear hK K
          try go_frame
          refine wpAnyH_take (i := 8) (oi := _) (v := ?_) (by simp only [List.getElem?_toArray, List.getElem?_cons_succ, List.getElem?_cons_zero]; rfl) (by kernel_rfl) (by kernel_rfl) (by kernel_rfl) (by intro _ _ _ h; exact h) (Or.inl ⟨by rfl, fun W hSw => ?_⟩) hHeld ?_
          rotate_left 1
          · (clear hSw; first | (go_simp; done) | (go_simp; with_reducible rfl))
          try go_frame
          refine wpAnyH_take (i := 9) (oi := _) (v := ?_) (by simp only [List.getElem?_toArray, List.getElem?_cons_succ, List.getElem?_cons_zero]; rfl) (by kernel_rfl) (by kernel_rfl) (by kernel_rfl) (by intro _ _ _ h; exact h) (Or.inl ⟨by rfl, fun W hSw => ?_⟩) hHeld ?_
          rotate_left 1
          · (clear hSw; first | (go_simp; done) | (go_simp; with_reducible rfl))
          try go_frame
          refine wpAnyH_take (i := 10) (oi := _) (v := ?_) (by simp only [List.getElem?_toArray, List.getElem?_cons_succ, List.getElem?_cons_zero]; rfl) (by kernel_rfl) (by kernel_rfl) (by kernel_rfl) (by intro _ _ _ h; exact h) (Or.inl ⟨by rfl, fun W hSw => ?_⟩) hHeld ?_
          rotate_left 1
          · (clear hSw; first | (go_simp; done) | (go_simp; with_reducible rfl))
          try go_frame
          refine wpAnyH_take (i := 11) (oi := _) (v := ?_) (by simp only [List.getElem?_toArray, List.getElem?_cons_succ, List.getElem?_cons_zero]; rfl) (by kernel_rfl) (by kernel_rfl) (by kernel_rfl) (by intro _ _ _ h; exact h) (Or.inl ⟨by rfl, fun W hSw => ?_⟩) hHeld ?_
          rotate_left 1
          · (clear hSw; first | (go_simp; done) | (go_simp; with_reducible rfl))
          try go_frame
          refine wpAnyH_take (i := 12) (oi := _) (v := ?_) (by simp only [List.getElem?_toArray, List.getElem?_cons_succ, List.getElem?_cons_zero]; rfl) (by kernel_rfl) (by kernel_rfl) (by kernel_rfl) (by intro _ _ _ h; exact h) (Or.inl ⟨by rfl, fun W hSw => ?_⟩) hHeld ?_
          rotate_left 1
          · (clear hSw; first | (go_simp; done) | (go_simp; with_reducible rfl))
          try go_frame
          refine wpAnyH_ready (rs := [13]) (by kernel_rfl) (by simp) ?_
          refine AllReadyH.cons (o := _) (by simp only [List.getElem?_toArray, List.getElem?_cons_succ, List.getElem?_cons_zero]; rfl) (fun K hK => ?_) AllReadyH.nil
          clear hHeld
          go_simp
          refine (HLen.out _ (by first | exact .inl rfl | exact .inr rfl)).mono ?_
          rintro e v ⟨rfl, rfl⟩
          refine hK.out _ _ trivial (fun hHeld => ?_)
          clear hK K
          try go_frame
          refine wpAnyH_take (i := 14) (oi := _) (v := ?_) (by simp only [List.getElem?_toArray, List.getElem?_cons_succ, List.getElem?_cons_zero]; rfl) (by kernel_rfl) (by kernel_rfl) (by kernel_rfl) (by intro _ _ _ h; exact h) (Or.inl ⟨by rfl, fun W hSw => ?_⟩) hHeld ?_
          rotate_left 1
          · (clear hSw; first | (go_simp; done) | (go_simp; with_reducible rfl))
          try go_frame
          refine wpAnyH_take (i := 15) (oi := _) (v := ?_) (by simp only [List.getElem?_toArray, List.getElem?_cons_succ, List.getElem?_cons_zero]; rfl) (by kernel_rfl) (by kernel_rfl) (by kernel_rfl) (by intro _ _ _ h; exact h) (Or.inl ⟨by rfl, fun W hSw => ?_⟩) hHeld ?_
          rotate_left 1
          · (clear hSw; first | (go_simp; done) | (go_simp; with_reducible rfl))
          try go_frame
          refine wpAnyH_take (i := 16) (oi := _) (v := ?_) (by simp only [List.getElem?_toArray, List.getElem?_cons_succ, List.getElem?_cons_zero]; rfl) (by kernel_rfl) (by kernel_rfl) (by kernel_rfl) (by intro _ _ _ h; exact h) (Or.inl ⟨by rfl, fun W hSw => ?_⟩) hHeld ?_
          rotate_left 1
          · (clear hSw; first | (go_simp; done) | (go_simp; with_reducible rfl))
          try go_frame
          refine wpAnyH_take (i := 17) (oi := _) (v := ?_) (by simp only [List.getElem?_toArray, List.getElem?_cons_succ, List.getElem?_cons_zero]; rfl) (by kernel_rfl) (by kernel_rfl) (by kernel_rfl) (by intro _ _ _ h; exact h) (Or.inl ⟨by rfl, fun W hSw => ?_⟩) hHeld ?_
          rotate_left 1
          · (clear hSw; first | (go_simp; done) | (go_simp; with_reducible rfl))
          try go_frame
          refine wpAnyH_take (i := 20) (oi := _) (v := ?_) (by simp only [List.getElem?_toArray, List.getElem?_cons_succ, List.getElem?_cons_zero]; rfl) (by kernel_rfl) (by kernel_rfl) (by kernel_rfl) (by intro _ _ _ h; exact h) (Or.inl ⟨by rfl, fun W hSw => ?_⟩) hHeld ?_
          rotate_left 1
          · (clear hSw; first | (go_simp; done) | (go_simp; with_reducible rfl))
          try go_frame
          refine wpAnyH_ready (rs := [18]) (by kernel_rfl) (by simp) ?_
          refine AllReadyH.cons (o := _) (by simp only [List.getElem?_toArray, List.getElem?_cons_succ, List.getElem?_cons_zero]; rfl) (fun K hK => ?_) AllReadyH.nil
          clear hHeld
          go_simp
          refine (HBy.out _ _ (.inl rfl) HK9.out).mono ?_
          rintro e w10 ⟨u10, rfl, o10, b10⟩
          have HK10 : Hid (Kpt [] w9 w10) := Lib.hid (HK9.out.trans (.of_below b10 : Kpt [] _ _) (fun x h => .inl h))
          have HB10 : Hid (Below w.heap.size w w10) := Lib.hid (HB9.out.trans (b10.mono hs9))
          have hs10 := HB10.out.size
          clear b10
          refine hK.out _ _ trivial (fun hHeld => ?_)
          clear hK K
          try go_frame
          refine wpAnyH_and (T := fun W => (convert 23 9 u10).run Try.prog W = .ok (.string (tx (poolB M))) W) _ _ _ _ ?_
          replace hHeld := And.intro hHeld (conv_rd o10.rd)
          refine wpAnyH_take (i := 19) (oi := _) (v := ?_) (by simp only [List.getElem?_toArray, List.getElem?_cons_succ, List.getElem?_cons_zero]; rfl) (by kernel_rfl) (by kernel_rfl) (by kernel_rfl) (by intro _ _ _ h; exact h) (Or.inl ⟨by rfl, fun W hSw => ?_⟩) hHeld ?_
          rotate_left 1
          · (have hT := hSw.2; clear hSw; first | (go_simp; done) | (go_simp; with_reducible rfl))
          try go_frame
          refine wpAnyH_ready (rs := [21]) (by kernel_rfl) (by simp) ?_
          refine AllReadyH.cons (o := _) (by simp only [List.getElem?_toArray, List.getElem?_cons_succ, List.getElem?_cons_zero]; rfl) (fun K hK => ?_) AllReadyH.nil
          clear hHeld
          go_simp
          refine (HBy.out _ _ (.inr rfl) HK10.out).mono ?_
          rintro e w11 ⟨u11, rfl, o11, b11⟩
          replace o10 := o10.below b11 (fun g hg => (o10.lt g hg).2)
          have HB11 : Hid (Below w.heap.size w w11) := Lib.hid (HB10.out.trans (b11.mono hs10))
          clear b11
          refine hK.out _ _ ⟨trivial, conv_rd o10.rd⟩ (fun hHeld => ?_)
          clear hK K
          try go_frame
          refine wpAnyH_and (T := fun W => (convert 23 9 u11).run Try.prog W = .ok (.string (tx (poolB M))) W) _ _ _ _ ?_
          replace hHeld := And.intro hHeld (conv_rd o11.rd)
          refine wpAnyH_take (i := 22) (oi := _) (v := ?_) (by simp only [List.getElem?_toArray, List.getElem?_cons_succ, List.getElem?_cons_zero]; rfl) (by kernel_rfl) (by kernel_rfl) (by kernel_rfl) (by intro _ _ _ h; exact h) (Or.inl ⟨by rfl, fun W hSw => ?_⟩) hHeld ?_
          rotate_left 1
          · (have hT := hSw.2; clear hSw; first | (go_simp; done) | (go_simp; with_reducible rfl))
          try go_frame
          refine wpAnyH_take (i := 23) (oi := _) (v := ?_) (by simp only [List.getElem?_toArray, List.getElem?_cons_succ, List.getElem?_cons_zero]; rfl) (by kernel_rfl) (by kernel_rfl) (by kernel_rfl) (by intro _ _ _ h; exact h) (Or.inl ⟨by rfl, fun W hSw => ?_⟩) hHeld ?_
          rotate_left 1
          · (clear hSw; first | (go_simp; done) | (go_simp; with_reducible rfl))
          try go_frame
          refine wpAnyH_take (i := 24) (oi := _) (v := ?_) (by simp only [List.getElem?_toArray, List.getElem?_cons_succ, List.getElem?_cons_zero]; rfl) (by kernel_rfl) (by kernel_rfl) (by kernel_rfl) (by intro _ _ _ h; exact h) (Or.inl ⟨by rfl, fun W hSw => ?_⟩) hHeld ?_
          rotate_left 1
          · (clear hSw; first | (go_simp; done) | (go_simp; with_reducible rfl))
          try go_frame
          refine wpAnyH_take (i := 25) (oi := _) (v := ?_) (by simp only [List.getElem?_toArray, List.getElem?_cons_succ, List.getElem?_cons_zero]; rfl) (by kernel_rfl) (by kernel_rfl) (by kernel_rfl) (by intro _ _ _ h; exact h) (Or.inl ⟨by rfl, fun W hSw => ?_⟩) hHeld ?_
          rotate_left 1
          · (clear hSw; first | (go_simp; done) | (go_simp; with_reducible rfl))
          try go_frame
          refine wpAnyH_done (by kernel_rfl) ?_ _
          go_wp2_with fail
          go_ret
          exact ⟨rfl, HB11.out⟩

end Go.Proofs.Ytnpbhpidciiciaa
