/- PoolOnce: each text is there once, and found again by its number. -/
import Derived.Test.YtnpbhpidciiciaaPOpen
namespace Go.Proofs.Ytnpbhpidciiciaa
open Go.RowKit Go.Maps

theorem tbs_len {M : Nat} (hM : M ≤ 10000) : ∀ L : List ByteArray, (∀ s ∈ L, s.size ≤ M) → (tbs L).length ≤ L.length * (M + 10)
  | [], _ => by simp [tbs]
  | s :: L, h => by
    have h1 := h s (by simp)
    have h2 := tb_len (s := s) (by omega)
    have ih := tbs_len hM L (fun x hx => h x (by simp [hx]))
    rw [tbs_cons, List.length_append, List.length_cons, Nat.succ_mul]
    omega

/-- the i-th text of the second half -/
def ks (i : Nat) : ByteArray := tx [UInt8.ofNat (i % 256), UInt8.ofNat (i / 256), 120]
theorem ks_size (i : Nat) : (ks i).size = 3 := rfl
theorem ks_inj {i j : Nat} (hi : i < 300) (hj : j < 300) (h : ks i = ks j) : i = j := by
  have h2 : (ks i).data.toList = (ks j).data.toList := by rw [h]
  have h3 : ([UInt8.ofNat (i % 256), UInt8.ofNat (i / 256), 120] : List UInt8) = [UInt8.ofNat (j % 256), UInt8.ofNat (j / 256), 120] := h2
  simp only [List.cons.injEq, and_true] at h3
  have a := congrArg UInt8.toNat h3.1
  have b := congrArg UInt8.toNat h3.2
  rw [UInt8.toNat_ofNat', UInt8.toNat_ofNat'] at a b
  omega
/-- the first k of them -/
def kl (k : Nat) : List ByteArray := (List.range k).map ks
theorem kl_len (k : Nat) : (kl k).length = k := by simp [kl]
theorem kl_not {k : Nat} (hk : k < 300) : ks k ∉ kl k := by
  intro h
  unfold kl at h
  obtain ⟨j, hj, e⟩ := List.mem_map.1 h
  rw [List.mem_range] at hj
  have := ks_inj (by omega) hk e
  omega
theorem kl_put {k : Nat} (hk : k < 300) : pos (kl k) (ks k) = k ∧ putL (kl k) (ks k) = kl (k + 1) := by
  refine ⟨by rw [pos_not (kl_not hk), kl_len], ?_⟩
  unfold putL
  rw [if_neg (kl_not hk)]
  unfold kl
  rw [List.range_succ, List.map_append]
  rfl
theorem kl_size (k : Nat) : ∀ s ∈ kl k, s.size ≤ 3 := by
  intro s hs
  unfold kl at hs
  obtain ⟨j, _, rfl⟩ := List.mem_map.1 hs
  exact Nat.le_of_eq (ks_size j)

theorem rd_byte2 {w : World} {p : Option Addr} {c : Nat} {bs : List UInt8} (h : Rd w (.slice p bs.length c) bs) (hne : 0 < bs.length) :
    ∃ g off, p = some ⟨g, off, none⟩ ∧ ∀ i, i < bs.length → ∃ n : Nat, n < 256 ∧ w.cell? ⟨g, off + i, none⟩ = some (.int .u8 (n : Int)) := by
  obtain ⟨p', c', hpc, _, hn, hc⟩ := h
  simp only [Value.slice.injEq] at hpc
  obtain ⟨rfl, _, rfl⟩ := hpc
  cases p with
  | none => have := hn rfl; omega
  | some a =>
    have h0 := hc a rfl 0 bs[0] (List.getElem?_eq_getElem hne)
    have e0 : a.add 0 = a := by simp [Addr.add]
    rw [e0] at h0
    have hs := spot_of_cell h0
    refine ⟨a.block, a.off, ?_, fun i hi => ⟨bs[i].toNat, bs[i].toNat_lt, ?_⟩⟩
    · obtain ⟨b, o, s⟩ := a
      simp only at hs
      subst hs
      rfl
    · rw [← add_add a i hs, hc a rfl i bs[i] (List.getElem?_eq_getElem hi)]
      rfl

theorem bytes_at {w : World} {p : Option Addr} {n c : Nat} {l : List UInt8} (hr : Rd w (.slice p n c) l) (hn : n = l.length) (hv : l = [] ∨ ∀ g, (Value.slice p n c).ownBlock = some g → g < w.heap.size) (h : 0 < l.length) :
    ∃ g off, p = some ⟨g, off, none⟩ ∧ g < w.heap.size ∧ ∀ i, i < l.length → ∃ x : Nat, x < 256 ∧ w.cell? ⟨g, off + i, none⟩ = some (.int .u8 (x : Int)) := by
  subst hn
  obtain ⟨g, off, rfl, hb⟩ := rd_byte2 hr h
  refine ⟨g, off, rfl, ?_, hb⟩
  rcases hv with rfl | hv
  · simp at h
  · exact hv g rfl

set_option maxHeartbeats 1000000 in
set_option maxRecDepth 100000 in
theorem once_long (k : Value) (n : Int) (p : Option Addr) (len cap : Nat) (hk : k = .slice p len cap) (w : World) (h : 60 < len) (hm : len ≤ 9223372036854775807) :
    Calls Try.prog 5 #[k, .int .u16 n] w fun e w' => e = .returned (.bool true) ∧ Below w.heap.size w w' := by
  subst hk
  go_enter Try.func5, Try.ntmps5
  go_wp2_with fail
  refine (known_any _).mono ?_
  rintro e w1 ⟨rfl, hB1⟩
  go_wp2
  go_ret
  exact ⟨rfl, hB1⟩

/-- the text that one byte tells -/
theorem byte_text (w : World) (z : Int) (n : Nat) (hz : z = (n : Int)) (hn : n < 256) : ∃ t : ByteArray, t.size = 1 ∧
    (convert 23 9 (.slice (some ⟨w.heap.size, 0, none⟩) 1 1)).run Try.prog (w.alloc (.cells #[.int .u8 z] 5)) = .ok (.string t) (w.alloc (.cells #[.int .u8 z] 5)) :=
  ⟨tx [UInt8.ofNat n], by rw [tx_size]; rfl, conv_rd (rd_new1 w (.int .u8 z) 5 (UInt8.ofNat n) (by rw [u8_ofNat hn, hz]))⟩

/-- the text that three bytes tell -/
theorem three_text (w : World) (j : Nat) (hj : j < 300) :
    (convert 23 9 (.slice (some ⟨w.heap.size, 0, none⟩) 3 3)).run Try.prog (w.alloc (.cells #[.int .u8 ((j : Int) % 256), .int .u8 ((j : Int) / 256), .int .u8 120] 5)) =
      .ok (.string (ks j)) (w.alloc (.cells #[.int .u8 ((j : Int) % 256), .int .u8 ((j : Int) / 256), .int .u8 120] 5)) := by
  have h := Own.lit (w := w) (B := w.heap.size) #[.int .u8 ((j : Int) % 256), .int .u8 ((j : Int) / 256), .int .u8 120] [UInt8.ofNat (j % 256), UInt8.ofNat (j / 256), 120] (by
    simp only [List.map_cons, List.map_nil]
    rw [u8_ofNat (show j % 256 < 256 by omega), u8_ofNat (show j / 256 < 256 by omega)]
    rfl) (Nat.le_refl _) (by simp)
  exact conv_rd h.rd

set_option maxHeartbeats 1000000 in
set_option maxRecDepth 100000 in
theorem once_short (p : Option Addr) (len cap : Nat) (a r : Nat) (w : World) (hlen : len ≤ 60)
    (hk : 0 < len → ∃ g off, p = some ⟨g, off, none⟩ ∧ g < w.heap.size ∧ ∀ i, i < len → ∃ x : Nat, x < 256 ∧ w.cell? ⟨g, off + i, none⟩ = some (.int .u8 (x : Int)))
    (ha : a ≤ 65535) (hr : (a : Int) % 300 = (r : Int)) (hr3 : r < 300) :
    Calls Try.prog 5 #[.slice p len cap, .int .u16 a] w fun e w' => e = .returned (.bool true) ∧ Below w.heap.size w w' := by
  go_enter Try.func5, Try.ntmps5
  go_wp2_with fail
  refine (known_any _).mono ?_
  rintro e w1 ⟨rfl, hB1⟩
  have hs1 := hB1.size
  go_wp2_with fail
  refine (pnew_any _).mono ?_
  rintro e w2 ⟨pb, mb, rfl, hp2, hb2⟩
  have hB2 : Below w.heap.size w w2 := hB1.trans (hb2.mono hs1)
  have hp3 := hp2.mono hs1
  clear hb2 hp2 hs1 hB1
  go_wp2
  go_loopw [6] (fun i wr => ∃ (k : Nat) (sl : Value) (L : List ByteArray), i = .int .i64 k ∧ k ≤ len ∧ L.length ≤ k ∧ Pl wr w.heap.size pb mb sl L ∧ Below w.heap.size w wr) (fun i _ => len - (intOf i).toNat)
  case atStart => exact ⟨0, _, [], rfl, Nat.zero_le _, Nat.le_refl _, hp3, hB2⟩
  case round =>
    clear hp3 hB2
    obtain ⟨k, sl, L, rfl, hkl, hLk, hp, hB⟩ := hrel
    have hs := hB.size
    by_cases hlt : k < len
    · obtain ⟨g, off, rfl, hgw, hc⟩ := hk (by omega)
      obtain ⟨x, hx, hcx⟩ := hc k hlt
      have hcell : wr.cell? ⟨g, off + k, none⟩ = some (.int .u8 (x : Int)) := (hB.cell (p := ⟨g, off + k, none⟩) hgw).trans hcx
      obtain ⟨y, hy⟩ : ∃ y : Nat, y = x % 20 := ⟨_, rfl⟩
      have hyi : (x : Int) % 20 = (y : Int) := by omega
      have hy20 : y < 20 := by omega
      obtain ⟨t1, ht1s, hcv⟩ := byte_text wr (97 + (y : Int)) (97 + y) (by omega) (by omega)
      obtain ⟨s, hs1⟩ : ∃ s, (⟨#[116]⟩ : ByteArray) ++ t1 = s := ⟨_, rfl⟩
      have hss : s.size ≤ 1000 := by rw [← hs1, ByteArray.size_append, ht1s]; show 1 + 1 ≤ 1000; omega
      have hpA : Pl (wr.alloc (.cells #[Value.int .u8 (97 + (y : Int))] 5)) w.heap.size pb mb sl L := hp.kpt (Kpt.alloc [] _ _) (fun x _ => by simp)
      have hBA : Below w.heap.size w (wr.alloc (.cells #[Value.int .u8 (97 + (y : Int))] 5)) := hB.alloc hs _
      have hsA := hBA.size
      have hmem : s ∈ putL L s := putL_mem L s
      have hposL := pos_lt hmem
      have hself := putL_has hmem
      have hat := pos_at hmem
      obtain ⟨n, hn⟩ : ∃ n, n = pos L s := ⟨_, rfl⟩
      have hn2 : pos (putL L s) s = n := by
        rw [hn]
        unfold putL
        by_cases h : s ∈ L
        · rw [if_pos h]
        · rw [if_neg h, pos_new h, pos_not h]
      obtain ⟨M, hM⟩ : ∃ M, M = putL L s := ⟨_, rfl⟩
      rw [← hM] at hself hn2 hmem
      have hML : M.length ≤ L.length + 1 := by rw [hM]; exact putL_len L s
      have hnM : n < M.length := by rw [← hn2]; exact pos_lt hmem
      have hatM : M[n] = s := by
        have := pos_at hmem
        simpa only [hn2] using this
      have hcase : (M.length = L.length ∧ n < L.length) ∨ (M.length = L.length + 1 ∧ n = L.length) := by
        rw [hM, hn]
        by_cases h : s ∈ L
        · rw [putL_has h]; exact .inl ⟨rfl, pos_lt h⟩
        · unfold putL
          rw [if_neg h, pos_not h]
          exact .inr ⟨by simp, rfl⟩
      have hbeq := txt_eq hatM
      have HM := Lib.hid hM
      have HN := Lib.hid hn
      have HA := Lib.hid hatM
      have HS := Lib.hid hself
      have HN2 := Lib.hid hn2
      clear hy hcx hc hk hM hn hposL hat hatM hself hn2 hmem
      go_wp2_with fail
      refine (plen_any _ pb mb sl L _ hpA).mono ?_
      rintro e wl ⟨rfl, rfl⟩
      clear hcell hyi hy20 hx hgw hcv hs1 ht1s
      go_wp2_with fail
      refine (pput_any _ pb mb sl L s _ hpA hsA (by omega) (by omega)).mono ?_
      rintro e w5 ⟨sl5, rfl, hp5, hk5, _⟩
      rw [← HN.out]
      rw [← HM.out] at hp5
      have hB5 : Below w.heap.size w w5 := hBA.trans (hk5.below (fun x hx => (hpA.lt x hx).1) hsA)
      have hs5 := hB5.size
      clear hk5 hpA hBA hsA hp hB hs
      go_wp2_with fail
      refine (pat_in _ pb mb sl5 M n _ hp5 hnM).mono ?_
      rintro e wl ⟨rfl, rfl⟩
      rw [HA.out]
      go_wp2_with fail
      refine (pput_any _ pb mb sl5 M s _ hp5 hs5 (by omega) (by omega)).mono ?_
      rintro e w6 ⟨sl6, rfl, hp6, hk6, _⟩
      rw [HN2.out]
      rw [HS.out] at hp6
      have hB6 : Below w.heap.size w w6 := hB5.trans (hk6.below (fun x hx => (hp5.lt x hx).1) hs5)
      clear hk6 hp5 hB5 hs5 hss
      go_wp2_with fail
      refine (plen_any _ pb mb sl6 M _ hp6).mono ?_
      rintro e wl ⟨rfl, rfl⟩
      go_wp2_with fail
      refine (plen_any _ pb mb sl6 M _ hp6).mono ?_
      rintro e wl ⟨rfl, rfl⟩
      rcases hcase with ⟨hm1, hm2⟩ | ⟨hm1, hm2⟩
      · go_wp2_with fail
        refine (plen_any _ pb mb sl6 M _ hp6).mono ?_
        rintro e wl ⟨rfl, rfl⟩
        go_wp2
        go_roundw
        case rel => exact ⟨k + 1, sl6, M, by go_num, by omega, by omega, hp6, hB6⟩
        case measure => simp [intOf]; omega
      · go_wp2_with fail
        refine (plen_any _ pb mb sl6 M _ hp6).mono ?_
        rintro e wl ⟨rfl, rfl⟩
        go_wp2
        go_roundw
        case rel => exact ⟨k + 1, sl6, M, by go_num, by omega, by omega, hp6, hB6⟩
        case measure => simp [intOf]; omega
    · clear hp hLk
      go_wp2_with fail
      refine (pnew_any _).mono ?_
      rintro e w3 ⟨qb, nbk, rfl, hq3, hb3⟩
      have hB3 : Below w.heap.size w w3 := hB.trans (hb3.mono hs)
      have hq4 := hq3.mono hs
      clear hb3 hq3 hB hs hk
      go_wp2
      go_loopw [14] (fun i wr => ∃ (j : Nat) (sl : Value), i = .int .i64 j ∧ j ≤ r ∧ Pl wr w.heap.size qb nbk sl (kl j) ∧ Below w.heap.size w wr) (fun i _ => r - (intOf i).toNat)
      case atStart => exact ⟨0, _, rfl, Nat.zero_le _, hq4, hB3⟩
      case round =>
        clear hq4 hB3 hr
        obtain ⟨j, sl2, rfl, hjr, hq, hB⟩ := hrel
        have hs := hB.size
        have hlk := kl_len j
        by_cases hlt2 : j < r
        · have hcv := three_text wr j (by omega)
          have hqA : Pl (wr.alloc (.cells #[.int .u8 ((j : Int) % 256), .int .u8 ((j : Int) / 256), .int .u8 120] 5)) w.heap.size qb nbk sl2 (kl j) := hq.kpt (Kpt.alloc [] _ _) (fun x _ => by simp)
          have hBA : Below w.heap.size w (wr.alloc (.cells #[.int .u8 ((j : Int) % 256), .int .u8 ((j : Int) / 256), .int .u8 120] 5)) := hB.alloc hs _
          have hsA := hBA.size
          go_wp2_with fail
          refine (pput_any _ qb nbk sl2 (kl j) (ks j) _ hqA hsA (by omega) (by rw [ks_size]; omega)).mono ?_
          rintro e w5 ⟨sl5, rfl, hq5, hk5, _⟩
          rw [(kl_put (show j < 300 by omega)).1]
          rw [(kl_put (show j < 300 by omega)).2] at hq5
          have hB5 : Below w.heap.size w w5 := hBA.trans (hk5.below (fun x hx => (hqA.lt x hx).1) hsA)
          clear hk5 hqA hBA hsA hq hB hs hcv hlk
          go_wp2
          go_roundw
          case rel =>
            exact ⟨j + 1, sl5, by go_num, by omega, hq5, hB5⟩
          case measure => simp [intOf]; omega
        · obtain rfl : j = r := by omega
          have hT := tbs_len (M := 3) (by decide) (kl j) (kl_size j)
          rw [hlk] at hT
          have hpl : (poolB (kl j)).length ≤ 6000 := by
            unfold poolB
            rw [List.length_append, hlk]
            have := nb_len10 (v := j) (by omega)
            omega
          go_wp2_with fail
          refine (pbytes_any _ qb nbk sl2 (kl j) _ hq (by omega) (fun s h => Nat.le_trans (kl_size j s h) (by decide)) (by omega)).mono ?_
          rintro e w4 ⟨v4, rfl, ho4, hb4⟩
          have hB4 : Below w.heap.size w w4 := hB.trans (hb4.mono hs)
          have hs4 := hB4.size
          have ho5 := ho4.mono hs
          clear hb4 ho4 hq hB hT
          go_wp2_with (at_builtin; refine wp_app rfl _ _ rfl w.heap.size _ _ rfl (ho5.alloc _) _ [122] rfl (rd_new1 _ _ _ _ rfl) ?d1 ?d2 ?_)
          case d1 => simp; omega
          case d2 => simp; omega
          intro v6 w6 ho6 hg6 _
          have hB6 : Below w.heap.size w w6 := (hB4.alloc hs4 _).grown hg6 (by simp; omega) (fun k h => (ho5.lt k h).1)
          have hs6 := hB6.size
          have hl6 : (poolB (kl j) ++ [122]).length ≤ 6001 := by rw [List.length_append]; simp; omega
          have hln : (poolB (kl j)).length ≠ (poolB (kl j) ++ [122]).length := by rw [List.length_append]; simp
          clear hg6 ho5
          go_wp2_with fail
          refine (new_any v6 _ _ ho6.rd (.inr fun g hg => (ho6.lt g hg).2) (by omega)).mono ?_
          rintro e w7 ⟨rb, rfl, hr7, hb7⟩
          have hB7 : Below w.heap.size w w7 := hB6.trans (hb7.mono hs6)
          have hs7 := hB7.size
          have hrb : w.heap.size ≤ rb := Nat.le_trans hs6 hr7.1
          clear hb7 ho6
          go_wp2_with fail
          refine (pread_any _ rb _ 0 0 (kl j) (0 + (poolB (kl j)).length) 0 _ (poolR_back (r := [122]) rfl (by omega) (fun s h => Nat.le_trans (kl_size j s h) (by decide))) hr7 (by decide) (by omega)).mono ?_
          rintro e w8 ⟨hans, hr8, hk8⟩
          unfold ReadAns at hans
          rw [if_pos rfl] at hans
          obtain ⟨cb, cm, sl8, rfl, hc8⟩ := hans
          have hB8 : Below w.heap.size w w8 := hB7.trans (hk8.below (fun x hx => by simp at hx; omega) hs7)
          rw [Nat.zero_add] at hr8
          clear hk8 hr7
          go_wp2_with fail
          refine (plen_any _ cb cm sl8 (kl j) _ hc8).mono ?_
          rintro e wl ⟨rfl, rfl⟩
          rw [hlk]
          go_wp2_with fail
          refine (rdone_no hr8 (fun h => hln h.2) (by omega)).mono ?_
          rintro e w9 ⟨rfl, n9, rfl⟩
          go_wp2_with fail
          refine (rerr_any _ rb _ _ 0 _ (hr8.drewN _)).mono ?_
          rintro e wl ⟨rfl, rfl⟩
          go_wp2
          go_ret
          exact ⟨rfl, below_drewN' hB8 _⟩

end Go.Proofs.Ytnpbhpidciiciaa
