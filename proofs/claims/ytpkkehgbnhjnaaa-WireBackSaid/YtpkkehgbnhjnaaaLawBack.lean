/- WireBack: numbers and texts come back, each up to itself. -/
import Derived.Test.YtpkkehgbnhjnaaaBackPlain
import Derived.Deep.RegionHeld3
import Derived.Deep.RegionWith
import Derived.Deep.DeepCutAuto
namespace Go.Proofs.Ytpkkehgbnhjnaaa
open Go.RowKit

/-- a slice whose cells are known one by one -/
def Arr (w : World) (a : Option Addr) (n c : Nat) (V : Nat → Value) : Prop := 0 < n → ∃ b off, a = some ⟨b, off, none⟩ ∧ n ≤ c ∧ RowAt w b off n V

def IntsIn (lo hi : Int) (n : Nat) (L : Nat → Int) : Prop := ∀ i, i < n → lo ≤ L i ∧ L i ≤ hi

/-- the first k texts are short -/
def Short (S : Nat → ByteArray) (k : Nat) : Prop := ∀ i, i < k → (S i).size ≤ 100

theorem Short.next {S : Nat → ByteArray} {k : Nat} (h : Short S k) (hk : (S k).size ≤ 100) : Short S (k + 1) := fun i hi => by
  by_cases h1 : i = k
  · subst h1; exact hk
  · exact h i (by omega)

theorem pN_len {L : Nat → Int} {n : Nat} (h : IntsIn (-9223372036854775808) 9223372036854775807 n L) {k : Nat} (hk : k ≤ n) : (catTo (pN L) k).length ≤ k * 10 :=
  cat_len _ 10 k (fun i hi => nb_len10 (toNat_u64 (h i (by omega)).2).out)

theorem pI_len {N : Nat → Int} {n : Nat} (h : IntsIn (-2147483648) 2147483647 n N) {k : Nat} (hk : k ≤ n) : (catTo (pI N) k).length ≤ k * 10 :=
  cat_len _ 10 k (fun i hi => nb_len10 (u64_of_le (foldN_lt (h i (by omega)).1 (h i (by omega)).2) (by decide)).out)

theorem pS_len {S : Nat → ByteArray} {k : Nat} (h : Short S k) : (catTo (pS S) k).length ≤ k * 112 :=
  cat_len _ 112 k (fun i hi => by
    have h1 := h i hi
    have := nb_len10 (u64_of_le h1 (by decide)).out
    unfold pS
    rw [List.length_append, List.length_append, sb_len]
    simp [two]
    omega)

set_option maxHeartbeats 2000000 in
set_option maxRecDepth 100000 in
theorem back_short (a0 a1 a2 : Option Addr) (n0 c0 n1 c1 n2 c2 : Nat) (L N : Nat → Int) (S : Nat → ByteArray) (w : World) (h0 : n0 ≤ 20) (h1 : n1 ≤ 20) (h2 : n2 ≤ 10)
    (hL : Arr w a0 n0 c0 (fun i => .int .i64 (L i))) (hLb : IntsIn (-9223372036854775808) 9223372036854775807 n0 L)
    (hN : Arr w a1 n1 c1 (fun i => .int .i32 (N i))) (hNb : IntsIn (-2147483648) 2147483647 n1 N)
    (hS : Arr w a2 n2 c2 (fun i => .string (S i))) :
    Calls Try.prog 5 #[.slice a0 n0 c0, .slice a1 n1 c1, .slice a2 n2 c2] w fun e w' => e = .returned (.bool true) ∧ Below w.heap.size w w' := by
  have h20 : decide (20 < (n0 : Int)) = false := decide_eq_false (by omega)
  have h21 : decide (20 < (n1 : Int)) = false := decide_eq_false (by omega)
  have h10 : decide (10 < (n2 : Int)) = false := decide_eq_false (by omega)
  go_enter Try.func5, Try.ntmps5
  go_wp2_with fail
  refine (known_any _).mono ?_
  rintro e w1 ⟨rfl, hB1⟩
  go_wp2
  go_loopw [7, 8] (fun b i wr => ∃ k : Nat, i = .int .i64 k ∧ k ≤ n0 ∧ Own wr w.heap.size b (catTo (pN L) k) ∧ Below w.heap.size w wr) (fun _ i _ => n0 - (intOf i).toNat)
  case atStart => exact ⟨0, rfl, Nat.zero_le _, World.ownsRow_nil _ _ _ _, hB1⟩
  case round =>
    clear hB1
    obtain ⟨k, rfl, hk, ho, hB⟩ := hrel
    have hs := hB.size
    have hlen := pN_len hLb hk
    by_cases hlt : k < n0
    · obtain ⟨b, off, rfl, hnc, hrow⟩ := hL (by omega)
      have hcell := hrow.below hB hlt
      have hb := hLb k hlt
      have hb1 := hb.1
      have hb2 := hb.2
      clear hb hrow
      go_wp2_with fail
      refine (num_any _ _ _ [L k] _ (ho.alloc _).rd (.inr fun g hg => by have := (ho.lt g hg).2; simp; omega) (by omega) (rdI_new1 _ (L k) _ hb1 hb2) (.inr fun g hg => by cases hg; simp) (by simp)).mono ?_
      rintro e w2 ⟨v2, rfl, ho2, hb2'⟩
      have hB2 : Below w.heap.size w w2 := (hB.alloc hs _).trans (hb2'.mono (by simp; omega))
      have ho3 : Own w2 w.heap.size v2 (catTo (pN L) (k + 1)) := by
        rw [nums_one] at ho2
        exact ho2.mono (by simp; omega)
      clear ho2 hb2' ho hB hs
      go_wp2
      go_roundw
      case rel => exact ⟨k + 1, by go_num, by omega, ho3, hB2⟩
      case measure => simp [intOf]; omega
    · obtain rfl : n0 = k := by omega
      clear hlt hk
      go_wp2
      go_loopw [7, 9] (fun b i wr => ∃ k : Nat, i = .int .i64 k ∧ k ≤ n1 ∧ Own wr w.heap.size b (catTo (pN L) n0 ++ catTo (pI N) k) ∧ Below w.heap.size w wr) (fun _ i _ => n1 - (intOf i).toNat)
      case atStart => exact ⟨0, rfl, Nat.zero_le _, by simpa [catTo] using ho, hB⟩
      case round =>
        clear ho hB hs
        obtain ⟨k, rfl, hk, ho, hB⟩ := hrel
        have hs := hB.size
        have hlen2 := pI_len hNb hk
        by_cases hlt : k < n1
        · obtain ⟨b, off, rfl, hnc, hrow⟩ := hN (by omega)
          have hcell := hrow.below hB hlt
          have hb := hNb k hlt
          have hb1 := hb.1
          have hb2 := hb.2
          have hle : (catTo (pN L) n0 ++ catTo (pI N) k).length ≤ 500000 := by rw [List.length_append]; omega
          clear hb hrow
          go_wp2_with fail
          refine (int_any _ _ (N k) _ ho.rd (.inr fun g hg => (ho.lt g hg).2) hle hb1 hb2).mono ?_
          rintro e w2 ⟨v2, rfl, ho2, hb2'⟩
          have hB2 : Below w.heap.size w w2 := hB.trans (hb2'.mono hs)
          have ho3 : Own w2 w.heap.size v2 (catTo (pN L) n0 ++ catTo (pI N) (k + 1)) := by
            rw [List.append_assoc] at ho2
            exact ho2.mono hs
          clear ho2 hb2' ho hB hs
          go_wp2
          go_roundw
          case rel => exact ⟨k + 1, by go_num, by omega, ho3, hB2⟩
          case measure => simp [intOf]; omega
        · obtain rfl : n1 = k := by omega
          clear hlt hk
          go_wp2
          go_loopw [7, 10] (fun b i wr => ∃ k : Nat, i = .int .i64 k ∧ k ≤ n2 ∧ Short S k ∧ Own wr w.heap.size b (catTo (pN L) n0 ++ catTo (pI N) n1 ++ catTo (pS S) k) ∧ Below w.heap.size w wr) (fun _ i _ => n2 - (intOf i).toNat)
          case atStart => exact ⟨0, rfl, Nat.zero_le _, fun i hi => by omega, by simpa [catTo] using ho, hB⟩
          case round =>
            clear ho hB hs
            obtain ⟨k, rfl, hk, hsh, ho, hB⟩ := hrel
            have hs := hB.size
            have hlen3 := pS_len hsh
            by_cases hlt : k < n2
            · obtain ⟨b, off, rfl, hnc, hrow⟩ := hS (by omega)
              have hcell := hrow.below hB hlt
              by_cases hsz : (S k).size ≤ 100
              · have hle : (catTo (pN L) n0 ++ catTo (pI N) n1 ++ catTo (pS S) k).length ≤ 300000 := by rw [List.length_append, List.length_append]; omega
                have hsh2 := hsh.next hsz
                have hle2 : (catTo (pN L) n0 ++ catTo (pI N) n1 ++ catTo (pS S) k ++ (nb (S k).size ++ sb (S k))).length ≤ 400000 := by
                  have := nb_len10 (u64_of_le hsz (by decide)).out
                  simp only [List.length_append, sb_len] at hle ⊢
                  omega
                have hz1 : -9223372036854775808 ≤ ((S k).size : Int) := by omega
                have hz2 : ((S k).size : Int) ≤ 9223372036854775807 := by omega
                go_wp2_with fail
                have hod : Own wr.drew w.heap.size u7 (catTo (pN L) n0 ++ catTo (pI N) n1 ++ catTo (pS S) k) := ho
                have hBd := hB.drew
                have hsd : w.heap.size ≤ wr.drew.heap.size := hs
                clear ho hB
                go_region_held3 (fun w' => w'.cell? ⟨b, off + k, none⟩ = some (.string (S k))) (first | exact hcell | exact hrow.below hB3 hlt | exact hrow.below hB2 hlt) (first | (go_at_call 14; refine (text_any _ _ (S k) _ hod.rd (.inr fun g hg => (hod.lt g hg).2) (Nat.le_trans hle (by decide)) (Nat.le_trans hsz (by decide))).mono ?_; rintro e w2 ⟨v2, rfl, ho2, hb2⟩; have hB2 : Below w.heap.size w w2 := hBd.trans (hb2.mono hsd)) | (go_at_call 16; refine (two_any _ _ ((S k).size : Int) _ ho2.rd (.inr fun g hg => (ho2.lt g hg).2) hle2 hz1 hz2).mono ?_; rintro e w3 ⟨v3, rfl, ho3, hb3⟩; have hB3 : Below w.heap.size w w3 := hB2.trans (hb3.mono hB2.size)))
                have ho4 : Own w3 w.heap.size v3 (catTo (pN L) n0 ++ catTo (pI N) n1 ++ catTo (pS S) (k + 1)) := by
                  have h4 := ho3.mono (B' := w.heap.size) hB2.size
                  have e4 : catTo (pN L) n0 ++ catTo (pI N) n1 ++ catTo (pS S) k ++ (nb (S k).size ++ sb (S k)) ++ two (S k).size = catTo (pN L) n0 ++ catTo (pI N) n1 ++ catTo (pS S) (k + 1) := by
                    show _ = catTo (pN L) n0 ++ catTo (pI N) n1 ++ (catTo (pS S) k ++ (nb (S k).size ++ sb (S k) ++ two (S k).size))
                    simp only [List.append_assoc]
                  rw [e4] at h4
                  exact h4
                clear ho3 hb3 ho2 hb2 hB2 hod hBd hsd hcell hle2 hz1 hz2 hsh
                go_wp2
                go_roundw
                case rel => exact ⟨k + 1, by go_num, by omega, hsh2, ho4, hB3⟩
                case measure => simp [intOf]; omega
              · go_wp2
                go_ret
                exact ⟨rfl, hB⟩
            · obtain rfl : n2 = k := by omega
              clear hlt hk
              obtain ⟨bs, hbs⟩ : ∃ bs, bs = catTo (pN L) n0 ++ catTo (pI N) n1 ++ catTo (pS S) n2 := ⟨_, rfl⟩
              rw [← hbs] at ho
              have hbl : bs.length ≤ 300000 := by rw [hbs, List.length_append, List.length_append]; omega
              have HBS := Lib.hid hbs
              clear hbs
              go_wp2_with fail
              refine (new_any _ _ _ ho.rd (.inr fun g hg => (ho.lt g hg).2) (by omega)).mono ?_
              rintro e w5 ⟨r, rfl, hr5, hb5⟩
              have hB5 : Below w.heap.size w w5 := hB.trans (hb5.mono hs)
              obtain ⟨Br, hBr⟩ : ∃ Br, Br = wr.heap.size := ⟨_, rfl⟩
              rw [← hBr] at hr5
              have hrb : w.heap.size ≤ r := Nat.le_trans hs (by have := hr5.1; omega)
              clear ho hB hs hb5 hBr
              go_wp2
              go_loopw [12] (fun i wr => ∃ k : Nat, i = .int .i64 k ∧ k ≤ n0 ∧ Rdr wr Br r bs (catTo (pN L) k).length 0 ∧ Below w.heap.size w wr) (fun i _ => n0 - (intOf i).toNat)
              case atStart => exact ⟨0, rfl, Nat.zero_le _, hr5, hB5⟩
              case round =>
                clear hr5 hB5
                obtain ⟨k, rfl, hk, hr, hB⟩ := hrel
                have hs := hB.size
                by_cases hlt : k < n0
                · obtain ⟨b, off, rfl, hnc, hrow⟩ := hL (by omega)
                  have hcell := hrow.below hB hlt
                  have hb := hLb k hlt
                  have hb1 := hb.1
                  have hb2 := hb.2
                  have hR : numR bs (catTo (pN L) k).length 0 (cnt (L k)) = (cnt (L k), (catTo (pN L) (k + 1)).length, 0) := by
                    obtain ⟨t, ht⟩ := cat_split (pN L) k n0 hlt
                    have hd := drop_at (bs := bs) (a := catTo (pN L) k) (b := pN L k) (r := t ++ (catTo (pI N) n1 ++ catTo (pS S) n2)) (by rw [HBS.out, ht]; simp)
                    rw [numR_nb hd (by unfold cnt; omega), if_neg (by omega)]
                    show _ = (_, (catTo (pN L) k ++ pN L k).length, 0)
                    rw [List.length_append]
                    rfl
                  have HR := Lib.hid hR
                  have hrd : Rdr wr.drew Br r bs (catTo (pN L) k).length 0 := hr
                  have hBd := hB.drew
                  have hsd : w.heap.size ≤ wr.drew.heap.size := hs
                  have hl4 : bs.length ≤ 400000 := by omega
                  clear hb hR hr hB
                  by_cases hz : 0 ≤ L k
                  · have hv : ((cnt (L k) : Nat) : Int) = L k := by unfold cnt; omega
                    have HV := Lib.hid hv
                    clear hv
                    go_wp2_with fail
                    go_region_held3 (fun w' => w'.cell? ⟨b, off + k, none⟩ = some (.int .i64 (L k))) (first | exact hcell | exact hrow.below hB3 hlt) (first | (go_at_call 19; refine (rnum_val HR.out HV.out hrd (by decide) hl4 hb1 hb2).mono ?_; rintro e w3 ⟨rfl, hg3⟩; have hB3 : Below w.heap.size w w3 := hBd.trans (hg3.below hsd hrb)))
                    all_goals
                      have hr3 := hg3.1
                      clear hg3 hrd hBd hsd hcell
                      go_wp2
                      go_roundw
                      case rel => exact ⟨k + 1, by go_num, by omega, hr3, hB3⟩
                      case measure => simp [intOf]; omega
                  · have hv : ((cnt (L k) : Nat) : Int) = 0 := by unfold cnt; omega
                    have HV := Lib.hid hv
                    clear hv
                    go_wp2_with fail
                    go_region_held3 (fun w' => w'.cell? ⟨b, off + k, none⟩ = some (.int .i64 (L k))) (first | exact hcell | exact hrow.below hB3 hlt) (first | (go_at_call 19; refine (rnum_val HR.out HV.out hrd (by decide) hl4 hb1 hb2).mono ?_; rintro e w3 ⟨rfl, hg3⟩; have hB3 : Below w.heap.size w w3 := hBd.trans (hg3.below hsd hrb)))
                    all_goals
                      have hr3 := hg3.1
                      clear hg3 hrd hBd hsd hcell
                      go_wp2
                      go_roundw
                      case rel => exact ⟨k + 1, by go_num, by omega, hr3, hB3⟩
                      case measure => simp [intOf]; omega
                · obtain rfl : n0 = k := by omega
                  clear hlt hk
                  go_wp2
                  go_loopw [13] (fun i wr => ∃ k : Nat, i = .int .i64 k ∧ k ≤ n1 ∧ Rdr wr Br r bs (catTo (pN L) n0 ++ catTo (pI N) k).length 0 ∧ Below w.heap.size w wr) (fun i _ => n1 - (intOf i).toNat)
                  case atStart => exact ⟨0, rfl, Nat.zero_le _, by simpa [catTo] using hr, hB⟩
                  case round =>
                    clear hr hB hs
                    obtain ⟨k, rfl, hk, hr, hB⟩ := hrel
                    have hs := hB.size
                    by_cases hlt : k < n1
                    · obtain ⟨b, off, rfl, hnc, hrow⟩ := hN (by omega)
                      have hcell := hrow.below hB hlt
                      have hb := hNb k hlt
                      have hb1 := hb.1
                      have hb2 := hb.2
                      have hR : numR bs (catTo (pN L) n0 ++ catTo (pI N) k).length 0 4294967295 = (foldN (N k), (catTo (pN L) n0 ++ catTo (pI N) (k + 1)).length, 0) := by
                        obtain ⟨t, ht⟩ := cat_split (pI N) k n1 hlt
                        have hd := drop_at (bs := bs) (a := catTo (pN L) n0 ++ catTo (pI N) k) (b := pI N k) (r := t ++ catTo (pS S) n2) (by rw [HBS.out, ht]; simp)
                        have hf := foldN_lt hb1 hb2
                        rw [numR_nb hd (by omega), if_neg (by omega)]
                        show _ = (_, (catTo (pN L) n0 ++ (catTo (pI N) k ++ pI N k)).length, 0)
                        simp only [List.length_append, pI, Nat.add_assoc]
                      have HR := Lib.hid hR
                      have HV := Lib.hid (unfold_fold (N k))
                      have hrd : Rdr wr.drew Br r bs (catTo (pN L) n0 ++ catTo (pI N) k).length 0 := hr
                      have hBd := hB.drew
                      have hsd : w.heap.size ≤ wr.drew.heap.size := hs
                      have hl4 : bs.length ≤ 400000 := by omega
                      clear hb hR hr hB
                      go_wp2_with fail
                      go_region_held3 (fun w' => w'.cell? ⟨b, off + k, none⟩ = some (.int .i32 (N k))) (first | exact hcell | exact hrow.below hB3 hlt) (first | (go_at_call 21; refine (rint_val HR.out HV.out hrd (by decide) hl4).mono ?_; rintro e w3 ⟨rfl, hg3⟩; have hB3 : Below w.heap.size w w3 := hBd.trans (hg3.below hsd hrb)))
                      all_goals
                        have hr3 := hg3.1
                        clear hg3 hrd hBd hsd hcell
                        go_wp2
                        go_roundw
                        case rel => exact ⟨k + 1, by go_num, by omega, hr3, hB3⟩
                        case measure => simp [intOf]; omega
                    · obtain rfl : n1 = k := by omega
                      clear hlt hk
                      go_wp2
                      go_loopw [14] (fun i wr => ∃ k : Nat, i = .int .i64 k ∧ k ≤ n2 ∧ Rdr wr Br r bs (catTo (pN L) n0 ++ catTo (pI N) n1 ++ catTo (pS S) k).length 0 ∧ Below w.heap.size w wr) (fun i _ => n2 - (intOf i).toNat)
                      case atStart => exact ⟨0, rfl, Nat.zero_le _, by simpa [catTo] using hr, hB⟩
                      case round =>
                        clear hr hB hs
                        obtain ⟨k, rfl, hk, hr, hB⟩ := hrel
                        have hs := hB.size
                        by_cases hlt : k < n2
                        · obtain ⟨b, off, rfl, hnc, hrow⟩ := hS (by omega)
                          have hcell := hrow.below hB hlt
                          have hsz : (S k).size ≤ 100 := hsh k hlt
                          have hT : textR bs (catTo (pN L) n0 ++ catTo (pI N) n1 ++ catTo (pS S) k).length 0 (cnt ((S k).size : Int)) = (sb (S k), (catTo (pN L) n0 ++ catTo (pI N) n1 ++ catTo (pS S) k ++ (nb (S k).size ++ sb (S k))).length, 0) := by
                            obtain ⟨t, ht⟩ := cat_split (pS S) k n2 hlt
                            have hd := drop_at (bs := bs) (a := catTo (pN L) n0 ++ catTo (pI N) n1 ++ catTo (pS S) k) (b := nb (sb (S k)).length) (r := sb (S k) ++ (two (S k).size ++ t)) (by rw [HBS.out, ht, sb_len]; simp [pS])
                            rw [textR_nb hd (by rw [sb_len]; omega), cnt_nat, if_neg (by rw [sb_len]; omega), sb_len]
                            simp only [List.length_append, sb_len, Nat.add_assoc]
                          have hW : rtwoR bs (catTo (pN L) n0 ++ catTo (pI N) n1 ++ catTo (pS S) k ++ (nb (S k).size ++ sb (S k))).length 0 (cnt ((S k).size : Int)) = ((S k).size, (catTo (pN L) n0 ++ catTo (pI N) n1 ++ catTo (pS S) (k + 1)).length, 0) := by
                            obtain ⟨t, ht⟩ := cat_split (pS S) k n2 hlt
                            have hd := drop_at (bs := bs) (a := catTo (pN L) n0 ++ catTo (pI N) n1 ++ catTo (pS S) k ++ (nb (S k).size ++ sb (S k))) (b := two (S k).size) (r := t) (by rw [HBS.out, ht]; simp [pS])
                            rw [rtwoR_two hsz hd]
                            show _ = (_, (catTo (pN L) n0 ++ catTo (pI N) n1 ++ (catTo (pS S) k ++ (nb (S k).size ++ sb (S k) ++ two (S k).size))).length, 0)
                            simp only [List.length_append, Nat.add_assoc]
                            rfl
                          have HT := Lib.hid hT
                          have HW := Lib.hid hW
                          have hz1 : -9223372036854775808 ≤ ((S k).size : Int) := by omega
                          have hz2 : ((S k).size : Int) ≤ 9223372036854775807 := by omega
                          have hrd : Rdr wr.drew Br r bs (catTo (pN L) n0 ++ catTo (pI N) n1 ++ catTo (pS S) k).length 0 := hr
                          have hBd := hB.drew
                          have hsd : w.heap.size ≤ wr.drew.heap.size := hs
                          have hl4 : bs.length ≤ 400000 := by omega
                          clear hT hW hr hB
                          go_wp2_with fail
                          go_region_held3 (fun w' => w'.cell? ⟨b, off + k, none⟩ = some (.string (S k))) (first | exact hcell | exact hrow.below hB4 hlt | exact hrow.below hB3 hlt) (first | (go_at_call 23; refine (rtext_at HT.out hrd (by decide) hl4 hz1 hz2).mono ?_; rintro e w3 ⟨rfl, hg3⟩; have hB3 : Below w.heap.size w w3 := hBd.trans (hg3.below hsd hrb); rw [tx_sb]) | (go_at_call 25; refine (rtwo_at HW.out hg3.1 (by decide) hl4 hz1 hz2).mono ?_; rintro e w4 ⟨rfl, hg4⟩; have hB4 : Below w.heap.size w w4 := hB3.trans (hg4.below hB3.size hrb)))
                          have hr4 := hg4.1
                          clear hg3 hg4 hrd hBd hsd hcell hB3
                          go_wp2
                          go_roundw
                          case rel => exact ⟨k + 1, by go_num, by omega, hr4, hB4⟩
                          case measure => simp [intOf]; omega
                        · obtain rfl : n2 = k := by omega
                          clear hlt hk
                          rw [← HBS.out] at hr
                          go_wp2_with fail
                          refine (rdone_any _ _ _ _ _ _ hr (by omega)).mono ?_
                          rintro e w6 ⟨rfl, n6, rfl⟩
                          rw [decide_eq_true (show 0 = 0 ∧ bs.length = bs.length from ⟨rfl, rfl⟩)]
                          go_wp2_with fail
                          refine (rerr_any _ _ _ _ _ _ (hr.drewN _)).mono ?_
                          rintro e w7 ⟨rfl, rfl⟩
                          go_wp2
                          go_ret
                          exact ⟨rfl, below_drewN' hB _⟩

end Go.Proofs.Ytpkkehgbnhjnaaa
