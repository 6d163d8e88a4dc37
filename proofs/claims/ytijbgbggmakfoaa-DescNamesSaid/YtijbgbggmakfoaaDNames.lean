/- The law DescNames answers true. -/
import Derived.Test.YtijbgbggmakfoaaDKnown
import Derived.Test.YtijbgbggmakfoaaDArgs
namespace Go.Proofs.Ytijbgbggmakfoaa
open Go.RowKit

theorem conv_one (w : World) (c : UInt8) : (convert 22 9 (.slice (some ⟨w.heap.size, 0, none⟩) 1 1)).run Try.prog (w.alloc (.cells #[.int .u8 (c.toNat : Int)] 5)) = .ok (.string (bx [c])) (w.alloc (.cells #[.int .u8 (c.toNat : Int)] 5)) :=
  run_convert_bytes_back _ 22 9 5 ⟨w.heap.size, 0, none⟩ 1 [c] Try.underlying22 Try.underlying5 Try.underlying9 (fun j hj => by
    match j, hj with
    | 0, _ => simp [Addr.add])

def chL : List UInt8 := [97, 122, 65, 90, 95, 48, 53, 57, 45, 46, 36, 32]
def chZ (z : Int) : UInt8 := chL.getD (z % 12).toNat 0
def sL (zs : List Int) : List UInt8 := zs.map chZ
def firstOk : List Int → Bool
  | [] => true
  | z :: _ => decide (z % 12 < 4)
def goodB (zs : List Int) : Bool := zs.all (fun z => decide (z % 12 < 8)) && firstOk zs

theorem chZ_let : ∀ r : Nat, r < 12 → letB ((chL.getD r 0).toNat : Int) = decide (r < 4) := by decide
theorem chZ_mid : ∀ r : Nat, r < 12 → midB ((chL.getD r 0).toNat : Int) = decide (r < 8) := by decide

theorem chZ_let' (z : Int) : letB ((chZ z).toNat : Int) = decide (z % 12 < 4) := by
  unfold chZ
  rw [chZ_let _ (by omega)]
  by_cases h : z % 12 < 4
  · rw [decide_eq_true h, decide_eq_true (by omega)]
  · rw [decide_eq_false h, decide_eq_false (by omega)]
theorem chZ_mid' (z : Int) : midB ((chZ z).toNat : Int) = decide (z % 12 < 8) := by
  unfold chZ
  rw [chZ_mid _ (by omega)]
  by_cases h : z % 12 < 8
  · rw [decide_eq_true h, decide_eq_true (by omega)]
  · rw [decide_eq_false h, decide_eq_false (by omega)]

theorem name_sL (zs : List Int) (h : zs.length ≤ 20) : nameB (bx (sL zs)) = (decide (0 < zs.length) && goodB zs) := by
  show nameL (sL zs) = _
  unfold nameL goodB
  have hl : (sL zs).length = zs.length := by simp [sL]
  have ha : (sL zs).all (fun c => midB (c.toNat : Int)) = zs.all (fun z => decide (z % 12 < 8)) := by
    unfold sL
    rw [List.all_map]
    congr 1
    funext z
    exact chZ_mid' z
  rw [hl, ha, decide_eq_true (show zs.length ≤ 64 by omega)]
  cases zs with
  | nil => rfl
  | cons z zs =>
    have : (sL (z :: zs)).getD 0 0 = chZ z := rfl
    rw [this, chZ_let']
    show _ = (_ && (_ && decide (z % 12 < 4)))
    simp only [Bool.and_true]
    rw [Bool.and_assoc, Bool.and_comm (decide (z % 12 < 4))]

theorem goodB_snoc (zs : List Int) (z : Int) : goodB (zs ++ [z]) = (goodB zs && decide (z % 12 < 8) && (decide (0 < zs.length) || decide (z % 12 < 4))) := by
  unfold goodB
  rw [List.all_append]
  cases zs with
  | nil => simp [firstOk]
  | cons y zs =>
    have e1 : firstOk (y :: zs ++ [z]) = firstOk (y :: zs) := rfl
    have e2 : decide (0 < (y :: zs).length) = true := by simp
    rw [e1, e2]
    simp only [List.all_cons, List.all_nil, Bool.and_true, Bool.true_or]
    cases decide (y % 12 < 8) <;> cases zs.all (fun z => decide (z % 12 < 8)) <;> cases decide (z % 12 < 8) <;> cases firstOk (y :: zs) <;> rfl

theorem all110 (n : Nat) : (List.replicate n (110 : UInt8)).all (fun c => midB (c.toNat : Int)) = true := by
  rw [List.all_eq_true]
  intro x hx
  rw [List.eq_of_mem_replicate hx]; rfl

theorem name_long (n : Nat) (h : 0 < n) : nameB (bx (List.replicate n 110)) = decide (n ≤ 64) := by
  show nameL (List.replicate n 110) = _
  unfold nameL
  rw [List.length_replicate, all110]
  obtain ⟨m, rfl⟩ : ∃ m, n = m + 1 := ⟨n - 1, by omega⟩
  have : (List.replicate (m + 1) (110 : UInt8)).getD 0 0 = 110 := rfl
  rw [this, decide_eq_true h]
  show (true && _ && letB 110 && true) = _
  rw [show letB 110 = true from rfl]
  simp

theorem name_two (c : UInt8) : nameB ((⟨#[97]⟩ : ByteArray) ++ bx [c]) = midB (c.toNat : Int) := by
  have : (⟨#[97]⟩ : ByteArray) ++ bx [c] = bx [97, c] := by rw [bx_app]; rfl
  rw [this]
  show nameL [97, c] = _
  unfold nameL
  show (true && true && letB 97 && (midB 97 && (midB (c.toNat : Int) && true))) = _
  rw [show letB 97 = true from rfl, show midB 97 = true from rfl]
  simp

set_option maxHeartbeats 4000000 in
set_option maxRecDepth 100000 in
theorem names_law (v0 : Value) (zs : List Int) (n : Int) (c : UInt8) (w : World) (hg : Glob w) (hi : RdB w v0 zs) (hn0 : 0 ≤ n) (hn1 : n ≤ 255) :
    Calls Try.prog 5 #[v0, .int .u8 n, .int .u8 (c.toNat : Int)] w fun e w' => e = .returned (.bool true) ∧ Below w.heap.size w w' := by
  obtain ⟨p, cap, rfl, h0, h1, h2, hr, h3⟩ := id hi
  have HR := Lib.hid hr
  have HI := Lib.hid hi
  clear hr hi h1 h2 h3
  by_cases h20 : 20 < zs.length
  · go_enter Try.func5, Try.ntmps5
    go_wp2_with fail
    refine (known_any _ hg).mono ?_
    rintro e w1 ⟨rfl, hb1⟩
    go_wp2_with fail
    go_ret
    exact ⟨rfl, hb1⟩
  have h20' : zs.length ≤ 20 := by omega
  have h20b : decide (20 < (zs.length : Int)) = false := decide_eq_false (by omega)
  obtain ⟨gb, hgb⟩ : ∃ gb, decide (0 < zs.length) = gb := ⟨_, rfl⟩
  have hgi : decide (0 < (zs.length : Int)) = gb := by rw [← hgb, decide_eq_decide]; omega
  have HGB := Lib.hid hgb
  clear h20
  go_enter Try.func5, Try.ntmps5
  go_wp2_with fail
  refine (known_any _ hg).mono ?_
  rintro e w1 ⟨rfl, hb1⟩
  have hs1 := hb1.size
  go_wp2_with fail
  go_loopw [7, 8, 9] (fun s g i wr => ∃ k : Nat, k ≤ zs.length ∧ i = .int .i64 k ∧ s = .string (bx (sL (zs.take k))) ∧ g = .bool (gb && goodB (zs.take k)) ∧ Below w.heap.size w wr) (fun _ _ i _ => zs.length - (intOf i).toNat)
  case atStart => exact ⟨0, Nat.zero_le _, rfl, rfl, by simp [goodB, firstOk], hb1⟩
  case round =>
    obtain ⟨k, hk, rfl, rfl, rfl, hbl⟩ := hrel
    have hsr := hbl.size
    by_cases hlt : k < zs.length
    · obtain ⟨z, hz⟩ : ∃ z, zs[k]? = some z := ⟨_, List.getElem?_eq_getElem hlt⟩
      obtain ⟨hz0, hz1⟩ := HR.out k z hz
      have hi2 := HI.out.below hbl (Nat.le_refl _)
      obtain ⟨p', cap', e', _, g1, g2, _, g3⟩ := hi2
      simp only [Value.slice.injEq, true_and] at e'
      obtain ⟨rfl, rfl⟩ := e'
      have hne : zs ≠ [] := fun e => by subst e; simp at hlt
      obtain ⟨⟨b, off, spot⟩, rfl⟩ : ∃ a, p = some a := by
        cases p with
        | none => exact absurd (g2 rfl) hne
        | some a => exact ⟨a, rfl⟩
      obtain rfl : spot = none := g1 _ rfl hne
      have hcell := g3 _ rfl k z hz
      simp only at hcell
      have hbs := World.block_lt_of_cell? _ _ hcell
      simp only at hbs
      have HT : Hid (zs.take (k + 1) = zs.take k ++ [z]) := Lib.hid (by
        obtain ⟨hk', rfl⟩ := List.getElem?_eq_some_iff.1 hz
        rw [List.take_succ_eq_append_getElem hk'])
      obtain rfl : true = gb := by rw [← HGB.out, decide_eq_true (by omega)]
      clear g1 g2 g3 hz hne
      have hcv := fun w' => conv_one w' (chZ z)
      have hch : ∀ (h : (z % 12).toNat < (ByteArray.mk #[97, 122, 65, 90, 95, 48, 53, 57, 45, 46, 36, 32]).size), (ByteArray.mk #[97, 122, 65, 90, 95, 48, 53, 57, 45, 46, 36, 32])[(z % 12).toNat]'h = chZ z := by
        intro h
        obtain ⟨r, hr⟩ : ∃ r, (z % 12).toNat = r := ⟨_, rfl⟩
        have hr2 : r < 12 := by omega
        unfold chZ chL
        simp only [hr] at h ⊢
        rcases r with _ | _ | _ | _ | _ | _ | _ | _ | _ | _ | _ | _ | r <;> first | rfl | omega
      have HG : Hid (goodB (zs.take (k + 1)) = (goodB (zs.take k) && decide (z % 12 < 8) && (decide (0 < (zs.take k).length) || decide (z % 12 < 4)))) := Lib.hid (by rw [HT.out, goodB_snoc])
      have hLk : (zs.take k).length = k := by rw [List.length_take]; omega
      have HL := Lib.hid hLk
      have HS : Hid (bx (sL (zs.take (k + 1))) = bx (sL (zs.take k)) ++ bx [chZ z]) := Lib.hid (by rw [HT.out, bx_app2, bx_data]; simp [sL])
      have hsz : (bx (sL (zs.take k))).size ≤ 20 := by rw [bx_size, sL, List.length_map, hLk]; omega
      have hsz1 : (bx [chZ z]).size = 1 := by rw [bx_size]; rfl
      clear hLk
      cases hG : goodB (zs.take k) with
      | false =>
        have HG2 : Hid (goodB (zs.take (k + 1)) = false) := Lib.hid (by rw [HG.out, hG]; rfl)
        go_wp2_with fail
        go_roundw
        case rel => first | exact ⟨k + 1, by omega, by go_num, by first | (rw [HS.out]; done) | (rw [HS.out]; rfl), by first | (rw [HG2.out]; done) | (rw [HG2.out]; rfl) | (rw [HG2.out]; simp), by repeat (first | assumption | refine Below.alloc ?_ (by omega) _)⟩ | ((repeat apply Exists.intro); refine ⟨?_, rfl⟩; exact ⟨k + 1, by omega, by go_num, by first | (rw [HS.out]; done) | (rw [HS.out]; rfl), by first | (rw [HG2.out]; done) | (rw [HG2.out]; rfl) | (rw [HG2.out]; simp), by repeat (first | assumption | refine Below.alloc ?_ (by omega) _)⟩)
        case measure => simp [intOf]; omega
      | true =>
        by_cases h8 : z % 12 < 8
        · by_cases hk0 : k = 0
          · subst hk0
            simp only [Nat.add_zero] at hcell
            by_cases h4 : z % 12 < 4
            · have HG2 : Hid (goodB (zs.take (0 + 1)) = true) := Lib.hid (by rw [HG.out, hG, decide_eq_true h8, decide_eq_true h4]; simp)
              go_wp2_with fail
              go_roundw
              case rel => first | exact ⟨0 + 1, by omega, rfl, by first | (rw [HS.out]; done) | (rw [HS.out]; rfl), by first | (rw [HG2.out]; done) | (rw [HG2.out]; rfl) | (rw [HG2.out]; simp), by repeat (first | assumption | refine Below.alloc ?_ (by omega) _)⟩ | ((repeat apply Exists.intro); refine ⟨?_, rfl⟩; exact ⟨0 + 1, by omega, rfl, by first | (rw [HS.out]; done) | (rw [HS.out]; rfl), by first | (rw [HG2.out]; done) | (rw [HG2.out]; rfl) | (rw [HG2.out]; simp), by repeat (first | assumption | refine Below.alloc ?_ (by omega) _)⟩)
              case measure => simp [intOf]; omega
            · have h4' : 4 ≤ z % 12 := by omega
              have HG2 : Hid (goodB (zs.take (0 + 1)) = false) := Lib.hid (by rw [HG.out, hG, decide_eq_true h8, decide_eq_false h4]; simp)
              go_wp2_with fail
              go_roundw
              case rel => first | exact ⟨0 + 1, by omega, rfl, by first | (rw [HS.out]; done) | (rw [HS.out]; rfl), by first | (rw [HG2.out]; done) | (rw [HG2.out]; rfl) | (rw [HG2.out]; simp), by repeat (first | assumption | refine Below.alloc ?_ (by omega) _)⟩ | ((repeat apply Exists.intro); refine ⟨?_, rfl⟩; exact ⟨0 + 1, by omega, rfl, by first | (rw [HS.out]; done) | (rw [HS.out]; rfl), by first | (rw [HG2.out]; done) | (rw [HG2.out]; rfl) | (rw [HG2.out]; simp), by repeat (first | assumption | refine Below.alloc ?_ (by omega) _)⟩)
              case measure => simp [intOf]; omega
          · have hk1 : 0 < k := by omega
            have HG2 : Hid (goodB (zs.take (k + 1)) = true) := Lib.hid (by rw [HG.out, hG, decide_eq_true h8, HL.out, decide_eq_true hk1]; rfl)
            go_wp2_with fail
            go_roundw
            case rel => first | exact ⟨k + 1, by omega, by go_num, by first | (rw [HS.out]; done) | (rw [HS.out]; rfl), by first | (rw [HG2.out]; done) | (rw [HG2.out]; rfl) | (rw [HG2.out]; simp), by repeat (first | assumption | refine Below.alloc ?_ (by omega) _)⟩ | ((repeat apply Exists.intro); refine ⟨?_, rfl⟩; exact ⟨k + 1, by omega, by go_num, by first | (rw [HS.out]; done) | (rw [HS.out]; rfl), by first | (rw [HG2.out]; done) | (rw [HG2.out]; rfl) | (rw [HG2.out]; simp), by repeat (first | assumption | refine Below.alloc ?_ (by omega) _)⟩)
            case measure => simp [intOf]; omega
        · have h8' : 8 ≤ z % 12 := by omega
          have HG2 : Hid (goodB (zs.take (k + 1)) = false) := Lib.hid (by rw [HG.out, hG, decide_eq_false h8]; rfl)
          go_wp2_with fail
          go_roundw
          case rel => first | exact ⟨k + 1, by omega, by go_num, by first | (rw [HS.out]; done) | (rw [HS.out]; rfl), by first | (rw [HG2.out]; done) | (rw [HG2.out]; rfl) | (rw [HG2.out]; simp), by repeat (first | assumption | refine Below.alloc ?_ (by omega) _)⟩ | ((repeat apply Exists.intro); refine ⟨?_, rfl⟩; exact ⟨k + 1, by omega, by go_num, by first | (rw [HS.out]; done) | (rw [HS.out]; rfl), by first | (rw [HG2.out]; done) | (rw [HG2.out]; rfl) | (rw [HG2.out]; simp), by repeat (first | assumption | refine Below.alloc ?_ (by omega) _)⟩)
          case measure => simp [intOf]; omega
    · have hke : zs.take k = zs := List.take_of_length_le (by omega)
      have hN1 : nameB (bx (sL zs)) = (gb && goodB zs) := by rw [name_sL zs h20', HGB.out]
      have HN1 := Lib.hid hN1
      have hsz : (bx (sL zs)).size ≤ maxLen := by rw [bx_size, sL, List.length_map]; unfold maxLen; omega
      rw [hke]
      obtain ⟨gx, hgx⟩ : ∃ gx, (gb && goodB zs) = gx := ⟨_, rfl⟩
      rw [hgx] at hN1 ⊢
      have HN1 := Lib.hid hN1
      have hcv := fun w' => conv_one w' c
      have HNL := Lib.hid name_long
      have hm0 : 0 ≤ n % 10 := by omega
      have hm1 : n % 10 < 10 := by omega
      clear hke hgx hN1 hgb
      go_wp2_with fail
      go_loop [11, 12] (fun s i => ∃ j : Nat, (j : Int) ≤ 60 + n % 10 ∧ i = .int .i64 j ∧ s = .string (bx (List.replicate j 110))) (fun _ i => (60 + n % 10 - intOf i).toNat)
      case atStart => exact ⟨0, by omega, rfl, rfl⟩
      case round =>
        obtain ⟨j, hj, rfl, rfl⟩ := hrel
        have hsj : (bx (List.replicate j 110)).size = j := by rw [bx_size, List.length_replicate]
        by_cases hlj : (j : Int) < 60 + n % 10
        · have HS : Hid (bx (List.replicate (j + 1) 110) = bx (List.replicate j 110) ++ ⟨#[110]⟩) := Lib.hid (by
            rw [List.replicate_succ', bx_app2])
          have hsj' : (bx (List.replicate j 110)).size ≤ 100 := by omega
          clear hsj
          go_wp2_with fail
          go_round
          case rel => exact ⟨j + 1, by omega, by go_num, by rw [HS.out]⟩
          case measure => simp [intOf]; omega
        · have hje : (j : Int) = 60 + n % 10 := by omega
          have HLO : Hid (nameB (bx (List.replicate j 110)) = decide (j ≤ 64)) := Lib.hid (name_long j (by omega))
          have HTW := Lib.hid (name_two c)
          have hsj1 : (bx (List.replicate j 110)).size ≤ maxLen := by rw [hsj]; unfold maxLen; omega
          have HSJ := Lib.hid hsj
          have hsc : ((⟨#[97]⟩ : ByteArray) ++ bx [c]).size ≤ maxLen := by rw [show (⟨#[97]⟩ : ByteArray) ++ bx [c] = bx [97, c] from by rw [bx_app]; rfl, bx_size]; unfold maxLen; simp
          have hsc1 : (bx [c]).size = 1 := by rw [bx_size]; rfl
          have hc1 := UInt8.toNat_lt c
          obtain ⟨lo, hlo⟩ : ∃ lo, decide (j ≤ 64) = lo := ⟨_, rfl⟩
          have hlo2 : decide (((bx (List.replicate j 110)).size : Int) ≤ 64) = lo := by rw [HSJ.out, ← hlo, decide_eq_decide]; omega
          have HL2 : Hid (nameB (bx (List.replicate j 110)) = lo) := Lib.hid (by rw [HLO.out, hlo])
          have hll : (lo == lo) = true := by simp
          have hgg : (gx == gx) = true := by simp
          have hlj' : 60 + n % 10 ≤ (j : Int) := by omega
          clear hlo hsj hje hlj
          by_cases hc0 : (c.toNat : Int) ≤ 47
          · have hm : midB (c.toNat : Int) = false := by rw [Bool.eq_iff_iff]; simp [midB, letB, digB]; omega
            have HT : Hid (nameB ((⟨#[97]⟩ : ByteArray) ++ bx [c]) = false) := Lib.hid (by rw [HTW.out, hm])
            have h95 : ((c.toNat : Int) == 95) = false := by rw [beq_eq_false_iff_ne]; omega
            clear hm 
            go_wp2_with fail
            refine (name_any _ _ hsz).mono ?_
            rintro e w' ⟨rfl, rfl⟩
            rw [HN1.out]
            go_wp2_with fail
            refine (name_any _ _ hsj1).mono ?_
            rintro e w' ⟨rfl, rfl⟩
            rw [HL2.out]
            go_wp2_with fail
            refine (name_any _ _ hsc).mono ?_
            rintro e w' ⟨rfl, rfl⟩
            rw [HT.out]
            go_wp2_with fail
            go_ret
            exact ⟨ret_bool (by first | rfl | (simp; omega)), by repeat (first | assumption | refine Below.alloc ?_ (by omega) _)⟩
          by_cases hc1 : (c.toNat : Int) ≤ 57
          · have hlow : 48 ≤ (c.toNat : Int) := by omega
            have hm : midB (c.toNat : Int) = true := by rw [Bool.eq_iff_iff]; simp [midB, letB, digB]; omega
            have HT : Hid (nameB ((⟨#[97]⟩ : ByteArray) ++ bx [c]) = true) := Lib.hid (by rw [HTW.out, hm])
            have h95 : ((c.toNat : Int) == 95) = false := by rw [beq_eq_false_iff_ne]; omega
            clear hm hc0
            go_wp2_with fail
            refine (name_any _ _ hsz).mono ?_
            rintro e w' ⟨rfl, rfl⟩
            rw [HN1.out]
            go_wp2_with fail
            refine (name_any _ _ hsj1).mono ?_
            rintro e w' ⟨rfl, rfl⟩
            rw [HL2.out]
            go_wp2_with fail
            refine (name_any _ _ hsc).mono ?_
            rintro e w' ⟨rfl, rfl⟩
            rw [HT.out]
            go_wp2_with fail
            go_ret
            exact ⟨ret_bool (by first | rfl | (simp; omega)), by repeat (first | assumption | refine Below.alloc ?_ (by omega) _)⟩
          by_cases hc2 : (c.toNat : Int) ≤ 64
          · have hlow : 58 ≤ (c.toNat : Int) := by omega
            have hm : midB (c.toNat : Int) = false := by rw [Bool.eq_iff_iff]; simp [midB, letB, digB]; omega
            have HT : Hid (nameB ((⟨#[97]⟩ : ByteArray) ++ bx [c]) = false) := Lib.hid (by rw [HTW.out, hm])
            have h95 : ((c.toNat : Int) == 95) = false := by rw [beq_eq_false_iff_ne]; omega
            clear hm hc0 hc1
            go_wp2_with fail
            refine (name_any _ _ hsz).mono ?_
            rintro e w' ⟨rfl, rfl⟩
            rw [HN1.out]
            go_wp2_with fail
            refine (name_any _ _ hsj1).mono ?_
            rintro e w' ⟨rfl, rfl⟩
            rw [HL2.out]
            go_wp2_with fail
            refine (name_any _ _ hsc).mono ?_
            rintro e w' ⟨rfl, rfl⟩
            rw [HT.out]
            go_wp2_with fail
            go_ret
            exact ⟨ret_bool (by first | rfl | (simp; omega)), by repeat (first | assumption | refine Below.alloc ?_ (by omega) _)⟩
          by_cases hc3 : (c.toNat : Int) ≤ 90
          · have hlow : 65 ≤ (c.toNat : Int) := by omega
            have hm : midB (c.toNat : Int) = true := by rw [Bool.eq_iff_iff]; simp [midB, letB, digB]; omega
            have HT : Hid (nameB ((⟨#[97]⟩ : ByteArray) ++ bx [c]) = true) := Lib.hid (by rw [HTW.out, hm])
            have h95 : ((c.toNat : Int) == 95) = false := by rw [beq_eq_false_iff_ne]; omega
            clear hm hc0 hc1 hc2
            go_wp2_with fail
            refine (name_any _ _ hsz).mono ?_
            rintro e w' ⟨rfl, rfl⟩
            rw [HN1.out]
            go_wp2_with fail
            refine (name_any _ _ hsj1).mono ?_
            rintro e w' ⟨rfl, rfl⟩
            rw [HL2.out]
            go_wp2_with fail
            refine (name_any _ _ hsc).mono ?_
            rintro e w' ⟨rfl, rfl⟩
            rw [HT.out]
            go_wp2_with fail
            go_ret
            exact ⟨ret_bool (by first | rfl | (simp; omega)), by repeat (first | assumption | refine Below.alloc ?_ (by omega) _)⟩
          by_cases hc4 : (c.toNat : Int) ≤ 94
          · have hlow : 91 ≤ (c.toNat : Int) := by omega
            have hm : midB (c.toNat : Int) = false := by rw [Bool.eq_iff_iff]; simp [midB, letB, digB]; omega
            have HT : Hid (nameB ((⟨#[97]⟩ : ByteArray) ++ bx [c]) = false) := Lib.hid (by rw [HTW.out, hm])
            have h95 : ((c.toNat : Int) == 95) = false := by rw [beq_eq_false_iff_ne]; omega
            clear hm hc0 hc1 hc2 hc3
            go_wp2_with fail
            refine (name_any _ _ hsz).mono ?_
            rintro e w' ⟨rfl, rfl⟩
            rw [HN1.out]
            go_wp2_with fail
            refine (name_any _ _ hsj1).mono ?_
            rintro e w' ⟨rfl, rfl⟩
            rw [HL2.out]
            go_wp2_with fail
            refine (name_any _ _ hsc).mono ?_
            rintro e w' ⟨rfl, rfl⟩
            rw [HT.out]
            go_wp2_with fail
            go_ret
            exact ⟨ret_bool (by first | rfl | (simp; omega)), by repeat (first | assumption | refine Below.alloc ?_ (by omega) _)⟩
          by_cases hc5 : (c.toNat : Int) ≤ 95
          · have hlow : 95 ≤ (c.toNat : Int) := by omega
            have hm : midB (c.toNat : Int) = true := by rw [Bool.eq_iff_iff]; simp [midB, letB, digB]; omega
            have HT : Hid (nameB ((⟨#[97]⟩ : ByteArray) ++ bx [c]) = true) := Lib.hid (by rw [HTW.out, hm])
            have h95 : ((c.toNat : Int) == 95) = true := by rw [beq_iff_eq]; omega
            clear hm hc0 hc1 hc2 hc3 hc4
            go_wp2_with fail
            refine (name_any _ _ hsz).mono ?_
            rintro e w' ⟨rfl, rfl⟩
            rw [HN1.out]
            go_wp2_with fail
            refine (name_any _ _ hsj1).mono ?_
            rintro e w' ⟨rfl, rfl⟩
            rw [HL2.out]
            go_wp2_with fail
            refine (name_any _ _ hsc).mono ?_
            rintro e w' ⟨rfl, rfl⟩
            rw [HT.out]
            go_wp2_with fail
            go_ret
            exact ⟨ret_bool (by first | rfl | (simp; omega)), by repeat (first | assumption | refine Below.alloc ?_ (by omega) _)⟩
          by_cases hc6 : (c.toNat : Int) ≤ 96
          · have hlow : 96 ≤ (c.toNat : Int) := by omega
            have hm : midB (c.toNat : Int) = false := by rw [Bool.eq_iff_iff]; simp [midB, letB, digB]; omega
            have HT : Hid (nameB ((⟨#[97]⟩ : ByteArray) ++ bx [c]) = false) := Lib.hid (by rw [HTW.out, hm])
            have h95 : ((c.toNat : Int) == 95) = false := by rw [beq_eq_false_iff_ne]; omega
            clear hm hc0 hc1 hc2 hc3 hc4 hc5
            go_wp2_with fail
            refine (name_any _ _ hsz).mono ?_
            rintro e w' ⟨rfl, rfl⟩
            rw [HN1.out]
            go_wp2_with fail
            refine (name_any _ _ hsj1).mono ?_
            rintro e w' ⟨rfl, rfl⟩
            rw [HL2.out]
            go_wp2_with fail
            refine (name_any _ _ hsc).mono ?_
            rintro e w' ⟨rfl, rfl⟩
            rw [HT.out]
            go_wp2_with fail
            go_ret
            exact ⟨ret_bool (by first | rfl | (simp; omega)), by repeat (first | assumption | refine Below.alloc ?_ (by omega) _)⟩
          by_cases hc7 : (c.toNat : Int) ≤ 122
          · have hlow : 97 ≤ (c.toNat : Int) := by omega
            have hm : midB (c.toNat : Int) = true := by rw [Bool.eq_iff_iff]; simp [midB, letB, digB]; omega
            have HT : Hid (nameB ((⟨#[97]⟩ : ByteArray) ++ bx [c]) = true) := Lib.hid (by rw [HTW.out, hm])
            have h95 : ((c.toNat : Int) == 95) = false := by rw [beq_eq_false_iff_ne]; omega
            clear hm hc0 hc1 hc2 hc3 hc4 hc5 hc6
            go_wp2_with fail
            refine (name_any _ _ hsz).mono ?_
            rintro e w' ⟨rfl, rfl⟩
            rw [HN1.out]
            go_wp2_with fail
            refine (name_any _ _ hsj1).mono ?_
            rintro e w' ⟨rfl, rfl⟩
            rw [HL2.out]
            go_wp2_with fail
            refine (name_any _ _ hsc).mono ?_
            rintro e w' ⟨rfl, rfl⟩
            rw [HT.out]
            go_wp2_with fail
            go_ret
            exact ⟨ret_bool (by first | rfl | (simp; omega)), by repeat (first | assumption | refine Below.alloc ?_ (by omega) _)⟩
          have hlow : 123 ≤ (c.toNat : Int) := by omega
          have hm : midB (c.toNat : Int) = false := by rw [Bool.eq_iff_iff]; simp [midB, letB, digB]; omega
          have HT : Hid (nameB ((⟨#[97]⟩ : ByteArray) ++ bx [c]) = false) := Lib.hid (by rw [HTW.out, hm])
          have h95 : ((c.toNat : Int) == 95) = false := by rw [beq_eq_false_iff_ne]; omega
          clear hm hc0 hc1 hc2 hc3 hc4 hc5 hc6 hc7
          go_wp2_with fail
          refine (name_any _ _ hsz).mono ?_
          rintro e w' ⟨rfl, rfl⟩
          rw [HN1.out]
          go_wp2_with fail
          refine (name_any _ _ hsj1).mono ?_
          rintro e w' ⟨rfl, rfl⟩
          rw [HL2.out]
          go_wp2_with fail
          refine (name_any _ _ hsc).mono ?_
          rintro e w' ⟨rfl, rfl⟩
          rw [HT.out]
          go_wp2_with fail
          go_ret
          exact ⟨ret_bool (by first | rfl | (simp; omega)), by repeat (first | assumption | refine Below.alloc ?_ (by omega) _)⟩
end Go.Proofs.Ytijbgbggmakfoaa
