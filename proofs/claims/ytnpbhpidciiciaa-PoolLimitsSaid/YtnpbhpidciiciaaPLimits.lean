/- PoolLimits: how many texts, and how long ones, are read. -/
import Derived.Test.YtnpbhpidciiciaaPOpen
import Derived.Deep.RegionLaw
namespace Go.Proofs.Ytnpbhpidciiciaa
open Go.RowKit Go.Maps

theorem tb_empty : tb (tx []) = [0] := by
  unfold tb
  rw [tx_size, show sb (tx []) = [] from rfl, List.append_nil, List.length_nil, nb_small (by decide)]
  rfl

theorem tbs_empty : ∀ n, tbs (List.replicate n (tx [])) = List.replicate n 0
  | 0 => rfl
  | n + 1 => by rw [List.replicate_succ, tbs_cons, tb_empty, tbs_empty n]; rfl

theorem poolR_zero {k : Nat} (h : k ≤ 10000) : poolR (nb k ++ List.replicate k 0) 0 0 = (List.replicate k (tx []), (nb k ++ List.replicate k 0).length, 0) := by
  have e : nb k ++ List.replicate k 0 = poolB (List.replicate k (tx [])) := by
    unfold poolB
    rw [List.length_replicate, tbs_empty]
  rw [e]
  have := poolR_back (bs := poolB (List.replicate k (tx []))) (r := []) (L := List.replicate k (tx [])) (k := 0) (by simp) (by rw [List.length_replicate]; omega) (fun s hs => by
    rw [List.mem_replicate] at hs
    rw [hs.2, tx_size]
    simp)
  rw [this, Nat.zero_add]

set_option maxHeartbeats 1000000 in
set_option maxRecDepth 100000 in
theorem limits_many (a r : Nat) (b : Int) (w : World) (_ha : a ≤ 65535) (hr : (a : Int) % 20 = (r : Int)) (_hr20 : r < 20) :
    Calls Try.prog 6 #[.int .u16 a, .int .u16 b, .bool true] w fun e w' => e = .returned (.bool true) ∧ Below w.heap.size w w' := by
  obtain ⟨k, hk⟩ : ∃ k : Nat, k = 9990 + r := ⟨_, rfl⟩
  have hn10 := nb_len10 (v := k) (by omega)
  have hki : 9990 + (r : Int) = (k : Int) := by omega
  have hk1 : k ≤ 10009 := by omega
  clear hk
  have hT : ∃ LF kF eF, poolR (nb k ++ List.replicate k 0) 0 0 = (LF, kF, eF) ∧ (if k ≤ 10000 then eF = 0 ∧ LF.length = k else eF = 22) := by
    by_cases h : k ≤ 10000
    · exact ⟨_, _, _, poolR_zero h, by rw [if_pos h]; exact ⟨rfl, by simp⟩⟩
    · exact ⟨_, _, _, poolR_many (r := List.replicate k 0) rfl (by omega) (by omega), by rw [if_neg h]⟩
  obtain ⟨LF, kF, eF, hP, hE⟩ := hT
  have HP := Lib.hid hP
  have HE := Lib.hid hE
  clear hP hE
  go_enter Try.func6, Try.ntmps6
  go_wp2_with fail
  refine (known_any _).mono ?_
  rintro e w1 ⟨rfl, hB1⟩
  have hs1 := hB1.size
  go_wp2_with (at_make; refine wp_zero rfl _ _ rfl w.heap.size _ _ k rfl rfl ?c1 ?c2 ?c3 ?c4 ?_)
  case c1 => omega
  case c2 => omega
  case c3 => omega
  case c4 => omega
  intro w2 ho2 hg2
  have hB2 : Below w.heap.size w w2 := hB1.grown hg2 hs1 (fun k h => by cases h)
  have hs2 := hB2.size
  clear hg2
  go_wp2_with fail
  refine (num_any (.slice none 0 0) _ [] [(k : Int)] _ (rd_nil _) (.inl rfl) (by simp) (rdI_new1 w2 _ _ (by omega) (by omega)) (.inr fun g hg => by cases hg; simp) (by simp)).mono ?_
  rintro e w3 ⟨v3, rfl, ho3, hb3⟩
  have hB3 : Below w.heap.size w w3 := (hB2.alloc hs2 _).trans (hb3.mono (by simp; omega))
  have hs3 := hB3.size
  have hd2 := ((ho2.alloc (.cells #[Value.int .i64 (k : Int)] 3)).below hb3 (fun g hg => ((ho2.alloc _).lt g hg).2)).rd
  have ho4 : Own w3 w.heap.size v3 (nb k) := by
    rw [List.nil_append, nums_len] at ho3
    exact ho3.mono (by simp; omega)
  clear ho3 ho2 hb3
  go_wp2_with (at_builtin; refine wp_app rfl _ _ rfl w.heap.size _ _ rfl ho4 _ _ rfl hd2 ?d1 ?d2 ?_)
  case d1 => rw [List.length_replicate]; omega
  case d2 => omega
  intro v5 w5 ho5 hg5 _
  have hB5 : Below w.heap.size w w5 := hB3.grown hg5 hs3 (fun k h => (ho4.lt k h).1)
  have hs5 := hB5.size
  have hl5 : (nb k ++ List.replicate k 0).length ≤ 20000 := by rw [List.length_append, List.length_replicate]; omega
  clear hg5 ho4 hd2
  go_wp2_with fail
  refine (new_any v5 _ _ ho5.rd (.inr fun g hg => (ho5.lt g hg).2) (by omega)).mono ?_
  rintro e w6 ⟨rb, rfl, hr6, hb6⟩
  have hB6 : Below w.heap.size w w6 := hB5.trans (hb6.mono hs5)
  have hs6 := hB6.size
  have hrb : w.heap.size ≤ rb := Nat.le_trans hs5 hr6.1
  clear hb6 ho5
  go_wp2_with fail
  refine (pread_any _ rb _ 0 0 LF kF eF _ HP.out hr6 (by decide) (by omega)).mono ?_
  rintro e w7 ⟨hans, hr7, hk7⟩
  have hB7 : Below w.heap.size w w7 := hB6.trans (hk7.below (fun x hx => by simp at hx; omega) hs6)
  clear hk7 hr6
  by_cases h : k ≤ 10000
  · have hE := HE.out
    rw [if_pos h] at hE
    obtain ⟨rfl, hLk⟩ := hE
    unfold ReadAns at hans
    rw [if_pos rfl] at hans
    obtain ⟨pb, mb, sl, rfl, hp⟩ := hans
    go_wp2_with fail
    refine (plen_any _ pb mb sl LF _ hp).mono ?_
    rintro e w8 ⟨rfl, rfl⟩
    go_wp2
    go_ret
    exact ⟨rfl, hB7⟩
  · have hE := HE.out
    rw [if_neg h] at hE
    obtain rfl := hE
    unfold ReadAns at hans
    rw [if_neg (by decide)] at hans
    subst hans
    go_wp2_with fail
    refine (rerr_any _ rb _ _ 22 _ hr7).mono ?_
    rintro e w8 ⟨rfl, rfl⟩
    go_wp2
    go_ret
    exact ⟨rfl, hB7⟩

/-- a text of noughts -/
def zs (m : Nat) : ByteArray := tx (List.replicate m 0)
theorem zs_size (m : Nat) : (zs m).size = m := by unfold zs; rw [tx_size, List.length_replicate]

set_option maxHeartbeats 1000000 in
set_option maxRecDepth 100000 in
theorem limits_long (b r : Nat) (a : Int) (w : World) (_hb : b ≤ 65535) (hr : (b : Int) % 20 = (r : Int)) (_hr20 : r < 20) :
    Calls Try.prog 6 #[.int .u16 a, .int .u16 b, .bool false] w fun e w' => e = .returned (.bool true) ∧ Below w.heap.size w w' := by
  obtain ⟨m, hm⟩ : ∃ m : Nat, m = 990 + r := ⟨_, rfl⟩
  have hmi : 990 + (r : Int) = (m : Int) := by omega
  have hm1 : m ≤ 1009 := by omega
  clear hm
  have hzs := zs_size m
  have hn1 := nb_len10 (v := 1) (by decide)
  have hn2 := tb_len (s := zs m) (by omega)
  have hT : ∃ LF kF eF, poolR (nb 1 ++ tb (zs m)) 0 0 = (LF, kF, eF) ∧ (if m ≤ 1000 then eF = 0 ∧ kF = (nb 1 ++ tb (zs m)).length else eF = 22) := by
    by_cases h : m ≤ 1000
    · have e : nb 1 ++ tb (zs m) = poolB [zs m] := by
        unfold poolB
        rw [tbs_cons]
        simp [tbs]
      rw [e]
      have := poolR_back (bs := poolB [zs m]) (r := []) (L := [zs m]) (k := 0) (by simp) (by simp) (fun s hs => by
        rw [List.mem_singleton] at hs
        rw [hs, zs_size]
        exact h)
      exact ⟨_, _, _, this, by rw [if_pos h]; exact ⟨rfl, by rw [Nat.zero_add]⟩⟩
    · exact ⟨_, _, _, poolR_long (r := []) (by rw [List.append_nil]) (by omega) (by omega), by rw [if_neg h]⟩
  obtain ⟨LF, kF, eF, hP, hE⟩ := hT
  have HP := Lib.hid hP
  have HE := Lib.hid hE
  have hl5 : (nb 1 ++ tb (zs m)).length ≤ 20000 := by rw [List.length_append]; omega
  clear hP hE hn2
  go_enter Try.func6, Try.ntmps6
  go_wp2_with fail
  refine (known_any _).mono ?_
  rintro e w1 ⟨rfl, hB1⟩
  have hs1 := hB1.size
  go_wp2_with (at_make; refine wp_zero rfl _ _ rfl w.heap.size _ _ m rfl rfl ?c1 ?c2 ?c3 ?c4 ?_)
  case c1 => omega
  case c2 => omega
  case c3 => omega
  case c4 => omega
  intro w2 ho2 hg2
  have hB2 : Below w.heap.size w w2 := hB1.grown hg2 hs1 (fun k h => by cases h)
  have hs2 := hB2.size
  clear hg2
  go_wp2_with fail
  have hcv0 := conv_rd (w := w2.drew) ho2.rd
  have hcv1 := conv_rd (w := (w2.alloc (.cells #[Value.int .i64 1] 3)).drew) (ho2.alloc _).rd
  have hoD : Own (w2.alloc (.cells #[Value.int .i64 1] 3)).drew w.heap.size _ _ := ho2.alloc _
  have hiD : RdI (w2.alloc (.cells #[Value.int .i64 1] 3)).drew _ [1] := rdI_new1 w2 1 _ (by decide) (by decide)
  have hBD : Below w.heap.size w (w2.alloc (.cells #[Value.int .i64 1] 3)).drew := (hB2.alloc hs2 _).drew
  have hsD : w.heap.size ≤ (w2.alloc (.cells #[Value.int .i64 1] 3)).drew.heap.size := hBD.size
  go_region_law (first
    | (rw [if_pos (by rfl)]; go_simp; go_at_call 24; refine (num_any (.slice none 0 0) _ [] [1] _ (rd_nil _) (.inl rfl) (by simp) hiD (.inr fun g hg => (by cases hg; simp)) (by simp)).mono ?_; rintro e w3 ⟨v3, rfl, ho3, hb3⟩; have hB3 : Below w.heap.size w w3 := (hBD.trans (hb3.mono hsD)); have ho2' := (hoD.below hb3 (fun g hg => (hoD.lt g hg).2)); have hcv3 := conv_rd ho2'.rd; have ho4 : Own w3 w.heap.size v3 (nb 1) := (by rw [List.nil_append, show (1 : Int) = ((1 : Nat) : Int) from rfl, nums_len] at ho3; exact ho3.mono hsD); have hs3 := hB3.size)
    | (rw [if_pos (by rfl)]; go_simp; go_at_call 25; refine (text_any v3 (nb 1) _ _ ho4.rd (.inr fun g hg => (ho4.lt g hg).2) (by omega) (by rw [tx_size, List.length_replicate]; omega)).mono ?_; rintro e w4 ⟨v4, rfl, ho5, hb4⟩; have hB4 : Below w.heap.size w w4 := hB3.trans (hb4.mono hs3); have hs4 := hB4.size)
    | (rw [if_pos (by rfl)]; go_simp; go_at_call 18; refine (new_any v4 (nb 1 ++ tb (zs m)) _ ho5.rd (.inr fun g hg => (ho5.lt g hg).2) (by omega)).mono ?_; rintro e w6 ⟨rb, rfl, hr6, hb6⟩; have hB6 : Below w.heap.size w w6 := hB4.trans (hb6.mono hs4)))
  all_goals
    have hs6 := hB6.size
    have hrb : w.heap.size ≤ rb := Nat.le_trans hs4 hr6.1
    clear hb6 ho5 hb4 hcv3 ho2' hb3 ho4 hcv0 hcv1 hoD ho2 ho3
    go_wp2_with fail
    refine (pread_any _ rb _ 0 0 LF kF eF _ HP.out hr6 (by decide) (by omega)).mono ?_
    rintro e w7 ⟨hans, hr7, hk7⟩
    have hB7 : Below w.heap.size w w7 := hB6.trans (hk7.below (fun x hx => by simp at hx; omega) hs6)
    clear hk7 hr6
    by_cases h : m ≤ 1000
    · have hE := HE.out
      rw [if_pos h] at hE
      obtain ⟨rfl, hLk⟩ := hE
      unfold ReadAns at hans
      rw [if_pos rfl] at hans
      obtain ⟨pb, mb, sl, rfl, hp⟩ := hans
      have HL := Lib.hid hLk
      clear hLk
      go_wp2_with fail
      refine (rdone_yes hr7 HL.out (by omega)).mono ?_
      rintro e w8 ⟨rfl, n8, rfl⟩
      go_wp2
      go_ret
      exact ⟨rfl, below_drewN' hB7 _⟩
    · have hE := HE.out
      rw [if_neg h] at hE
      obtain rfl := hE
      unfold ReadAns at hans
      rw [if_neg (by decide)] at hans
      subst hans
      go_wp2_with fail
      refine (rerr_any _ rb _ _ 22 _ hr7).mono ?_
      rintro e w8 ⟨rfl, rfl⟩
      go_wp2
      go_ret
      exact ⟨rfl, hB7⟩

end Go.Proofs.Ytnpbhpidciiciaa
