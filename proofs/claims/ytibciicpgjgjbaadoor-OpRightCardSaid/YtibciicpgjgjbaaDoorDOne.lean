/- What the readers of one whole type answer, and the answers' own. -/
import Derived.Test.YtibciicpgjgjbaaDoorDFirst
namespace Go.Proofs.YtibciicpgjgjbaaDoor
open Go.RowKit

/-- what a box of two cells still holds behind a call that leaves it -/
theorem box2 {w w1 : World} {a b : Value} {T : TypeId} (hb : Below (w.alloc (.cells #[a, b] T)).heap.size (w.alloc (.cells #[a, b] T)) w1) :
    w.heap.size < w1.heap.size ∧ ¬ w.heap.size = w1.heap.size ∧ w1.cell? ⟨w.heap.size, 0, none⟩ = some a ∧ w1.cell? ⟨w.heap.size, 1, none⟩ = some b ∧
      w1.frozen? ⟨w.heap.size, 0, none⟩ = false ∧ w1.frozen? ⟨w.heap.size, 1, none⟩ = false ∧ Below w.heap.size w w1 := by
  have hs1 := hb.size
  simp at hs1
  exact ⟨by omega, by omega, (hb.cell (p := ⟨w.heap.size, 0, none⟩) (by simp)).trans (by simp), (hb.cell (p := ⟨w.heap.size, 1, none⟩) (by simp)).trans (by simp),
    (hb.frozen (p := ⟨w.heap.size, 0, none⟩) (by simp)).trans (by simp), (hb.frozen (p := ⟨w.heap.size, 1, none⟩) (by simp)).trans (by simp),
    ((Below.refl _ w).alloc (Nat.le_refl _) _).trans (hb.mono (by simp))⟩

def nextR (s : List UInt8) : Ty × Nat := if (firstR s).2.2 then ((firstR s).1, s.length - (firstR s).2.1.length) else (t0, 0)

set_option maxHeartbeats 400000 in
theorem one_any (s : ByteArray) (w : World) (hg : Glob w) (hs : s.size ≤ 4294967280) :
    Calls Tryd.prog 37 #[.string s] w fun e w' => e = .returned (.tuple #[tyv (oneR s.data.toList).1, .bool (oneR s.data.toList).2]) ∧ Below w.heap.size w w' := by
  obtain ⟨⟨k, c⟩, rest, ok, hR⟩ : ∃ t rest ok, firstR s.data.toList = (t, rest, ok) := ⟨_, _, _, rfl⟩
  have HR := Lib.hid hR
  have HV : Hid (ret3 (firstR s.data.toList) = Value.tuple #[.agg #[.int .i64 k, .string c], .string (bx rest), .bool ok]) := Lib.hid (by rw [hR]; rfl)
  clear hR
  cases ok with
  | false =>
    have HF : Hid (oneR s.data.toList = (t0, false)) := Lib.hid (by unfold oneR; rw [HR.out]; rfl)
    go_enter Tryd.func37, Tryd.ntmps37
    go_wp2_with fail
    refine (first_any s _ (hg.alloc _) hs).mono ?_
    rintro e w1 ⟨rfl, hb1⟩
    rw [HV.out]
    obtain ⟨hlt1, hne1, hc0, hc1, hf0, hf1, hb2⟩ := box2 hb1
    clear hb1
    go_wp2_with fail
    refine bodyPost_ret (v := .tuple #[.agg #[.int .i64 0, .string (bx [])], .bool false]) (by simp [*, results, Tryd.results37, go_sem, bx]) rfl ⟨by rw [HF.out]; rfl, ?_⟩
    repeat (first | exact Below.refl _ _ | assumption | refine Below.setCell (p := ⟨_, _, _⟩) ?_ (by first | (simp; done) | (simp; omega) | omega) _ | refine below_drewN ?_ _ | refine Below.drew ?_ | refine Below.alloc ?_ (by first | (simp; done) | (simp; omega) | omega) _)
  | true =>
    cases rest with
    | nil =>
      have HF : Hid (oneR s.data.toList = ((k, c), true)) := Lib.hid (by unfold oneR; rw [HR.out]; rfl)
      have HB : Hid (bx [] = ⟨#[]⟩) := Lib.hid rfl
      go_enter Tryd.func37, Tryd.ntmps37
      go_wp2_with fail
      refine (first_any s _ (hg.alloc _) hs).mono ?_
      rintro e w1 ⟨rfl, hb1⟩
      rw [HV.out, HB.out]
      obtain ⟨hlt1, hne1, hc0, hc1, hf0, hf1, hb2⟩ := box2 hb1
      clear hb1
      go_wp2_with fail
      refine bodyPost_ret (v := .tuple #[.agg #[.int .i64 k, .string c], .bool true]) (by simp [*, results, Tryd.results37, go_sem]) rfl ⟨by rw [HF.out]; rfl, ?_⟩
      repeat (first | exact Below.refl _ _ | assumption | refine Below.setCell (p := ⟨_, _, _⟩) ?_ (by first | (simp; done) | (simp; omega) | omega) _ | refine below_drewN ?_ _ | refine Below.drew ?_ | refine Below.alloc ?_ (by first | (simp; done) | (simp; omega) | omega) _)
    | cons d rest =>
      have HF : Hid (oneR s.data.toList = (t0, false)) := Lib.hid (by unfold oneR; rw [HR.out]; rfl)
      have hp : 0 < (bx (d :: rest)).size := by rw [bx_size]; simp
      have hE := isEmpty_ne hp
      have hN := toList_ne hp
      go_enter Tryd.func37, Tryd.ntmps37
      go_wp2_with fail
      refine (first_any s _ (hg.alloc _) hs).mono ?_
      rintro e w1 ⟨rfl, hb1⟩
      rw [HV.out]
      obtain ⟨hlt1, hne1, hc0, hc1, hf0, hf1, hb2⟩ := box2 hb1
      clear hb1
      go_wp2_with fail
      refine bodyPost_ret (v := .tuple #[.agg #[.int .i64 0, .string (bx [])], .bool false]) (by simp [*, results, Tryd.results37, go_sem, bx]) rfl ⟨by rw [HF.out]; rfl, ?_⟩
      repeat (first | exact Below.refl _ _ | assumption | refine Below.setCell (p := ⟨_, _, _⟩) ?_ (by first | (simp; done) | (simp; omega) | omega) _ | refine below_drewN ?_ _ | refine Below.drew ?_ | refine Below.alloc ?_ (by first | (simp; done) | (simp; omega) | omega) _)

theorem refR_none {r : List UInt8} (h : (refR r).2.2 = false) : refR r = (t0, [], false) := refR_false rfl h

set_option maxHeartbeats 1000000 in
theorem next_any (s : ByteArray) (w : World) (hs : s.size ≤ 4294967280) :
    Calls Tryd.prog 30 #[.string s] w fun e w' => e = .returned (.tuple #[tyv (nextR s.data.toList).1, .int .i64 (nextR s.data.toList).2]) ∧ Below w.heap.size w w' := by
  cases hs1 : s.data.toList with
  | nil =>
    have h0 : s.size = 0 := by rw [Lib.size_eq, hs1]; rfl
    have HF : Hid (nextR [] = (t0, 0)) := Lib.hid rfl
    obtain rfl : s = ByteArray.empty := by
      obtain ⟨⟨l⟩⟩ := s
      rw [show l = [] from hs1]; rfl
    clear h0 hs1
    go_enter Tryd.func30, Tryd.ntmps30
    go_wp2_with fail
    refine bodyPost_ret (v := .tuple #[.agg #[.int .i64 0, .string (bx [])], .int .i64 0]) (by simp [*, results, Tryd.results30, go_sem, bx]) rfl ⟨by rw [HF.out]; rfl, ?_⟩
    repeat (first | exact Below.refl _ _ | assumption | refine Below.setCell (p := ⟨_, _, _⟩) ?_ (by first | (simp; done) | (simp; omega) | omega) _ | refine below_drewN ?_ _ | refine Below.drew ?_ | refine Below.alloc ?_ (by first | (simp; done) | (simp; omega) | omega) _)
  | cons c r =>
    rw [← hs1]
    have h0' : 0 < s.size := by rw [Lib.size_eq, hs1]; simp
    have hE := isEmpty_ne h0'
    have hN := toList_ne h0'
    have h0c : s[0] = c := by
      have := getD0 h0'
      rw [hs1] at this
      exact this.symm
    by_cases h1 : c = 73
    · subst h1
      have HF : Hid (nextR s.data.toList = ((1, bx []), 1)) := Lib.hid (by unfold nextR; rw [hs1, firstR_cons]; simp)
      have hx : (s[0].toNat : Int) = 73 := by rw [h0c]; rfl
      clear h0c hs1
      go_enter Tryd.func30, Tryd.ntmps30
      go_wp2_with fail
      refine bodyPost_ret (v := .tuple #[.agg #[.int .i64 1, .string (bx [])], .int .i64 1]) (by simp [*, results, Tryd.results30, go_sem, bx]) rfl ⟨by rw [HF.out]; rfl, ?_⟩
      repeat (first | exact Below.refl _ _ | assumption | refine Below.setCell (p := ⟨_, _, _⟩) ?_ (by first | (simp; done) | (simp; omega) | omega) _ | refine below_drewN ?_ _ | refine Below.drew ?_ | refine Below.alloc ?_ (by first | (simp; done) | (simp; omega) | omega) _)
    have n1 : ((s[0].toNat : Int) == 73) = false := by
      rw [beq_eq_false_iff_ne, h0c]
      intro e
      exact h1 (UInt8.toNat_inj.1 (by show c.toNat = 73; omega))
    by_cases h2 : c = 83
    · subst h2
      have HF : Hid (nextR s.data.toList = ((2, bx []), 1)) := Lib.hid (by unfold nextR; rw [hs1, firstR_cons]; simp)
      have hx : (s[0].toNat : Int) = 83 := by rw [h0c]; rfl
      clear h0c hs1
      go_enter Tryd.func30, Tryd.ntmps30
      go_wp2_with fail
      refine bodyPost_ret (v := .tuple #[.agg #[.int .i64 2, .string (bx [])], .int .i64 1]) (by simp [*, results, Tryd.results30, go_sem, bx]) rfl ⟨by rw [HF.out]; rfl, ?_⟩
      repeat (first | exact Below.refl _ _ | assumption | refine Below.setCell (p := ⟨_, _, _⟩) ?_ (by first | (simp; done) | (simp; omega) | omega) _ | refine below_drewN ?_ _ | refine Below.drew ?_ | refine Below.alloc ?_ (by first | (simp; done) | (simp; omega) | omega) _)
    have n2 : ((s[0].toNat : Int) == 83) = false := by
      rw [beq_eq_false_iff_ne, h0c]
      intro e
      exact h2 (UInt8.toNat_inj.1 (by show c.toNat = 83; omega))
    by_cases h3 : c = 65
    · subst h3
      have HF : Hid (nextR s.data.toList = ((3, bx []), 1)) := Lib.hid (by unfold nextR; rw [hs1, firstR_cons]; simp)
      have hx : (s[0].toNat : Int) = 65 := by rw [h0c]; rfl
      clear h0c hs1
      go_enter Tryd.func30, Tryd.ntmps30
      go_wp2_with fail
      refine bodyPost_ret (v := .tuple #[.agg #[.int .i64 3, .string (bx [])], .int .i64 1]) (by simp [*, results, Tryd.results30, go_sem, bx]) rfl ⟨by rw [HF.out]; rfl, ?_⟩
      repeat (first | exact Below.refl _ _ | assumption | refine Below.setCell (p := ⟨_, _, _⟩) ?_ (by first | (simp; done) | (simp; omega) | omega) _ | refine below_drewN ?_ _ | refine Below.drew ?_ | refine Below.alloc ?_ (by first | (simp; done) | (simp; omega) | omega) _)
    have n3 : ((s[0].toNat : Int) == 65) = false := by
      rw [beq_eq_false_iff_ne, h0c]
      intro e
      exact h3 (UInt8.toNat_inj.1 (by show c.toNat = 65; omega))
    by_cases h4 : c = 86
    · subst h4
      have HF : Hid (nextR s.data.toList = ((5, bx []), 1)) := Lib.hid (by unfold nextR; rw [hs1, firstR_cons]; simp)
      have hx : (s[0].toNat : Int) = 86 := by rw [h0c]; rfl
      clear h0c hs1
      go_enter Tryd.func30, Tryd.ntmps30
      go_wp2_with fail
      refine bodyPost_ret (v := .tuple #[.agg #[.int .i64 5, .string (bx [])], .int .i64 1]) (by simp [*, results, Tryd.results30, go_sem, bx]) rfl ⟨by rw [HF.out]; rfl, ?_⟩
      repeat (first | exact Below.refl _ _ | assumption | refine Below.setCell (p := ⟨_, _, _⟩) ?_ (by first | (simp; done) | (simp; omega) | omega) _ | refine below_drewN ?_ _ | refine Below.drew ?_ | refine Below.alloc ?_ (by first | (simp; done) | (simp; omega) | omega) _)
    have n4 : ((s[0].toNat : Int) == 86) = false := by
      rw [beq_eq_false_iff_ne, h0c]
      intro e
      exact h4 (UInt8.toNat_inj.1 (by show c.toNat = 86; omega))
    by_cases h5 : c = 76
    · subst h5
      have hx : (s[0].toNat : Int) = 76 := by rw [h0c]; rfl
      have hsz : s.size = r.length + 1 := by rw [Lib.size_eq, hs1]; simp
      have hget : ∀ k (hk : k < s.size), 1 ≤ k → r[k - 1]? = some s[k] := by
        intro k hk h1
        have := Lib.data_getElem? s k hk
        rw [hs1] at this
        obtain ⟨k, rfl⟩ : ∃ j, k = j + 1 := ⟨k - 1, by omega⟩
        simpa using this
      have hext : ∀ k, k ≤ s.size → 1 ≤ k → s.extract 1 k = bx (r.take (k - 1)) := by
        intro k hk h1
        rw [Lib.extract_eq, hs1]; rfl
      have HG := Lib.hid hget
      have HX := Lib.hid hext
      have HF : Hid (nextR s.data.toList = if (refR r).2.2 then ((refR r).1, r.length + 1 - (refR r).2.1.length) else (t0, 0)) := Lib.hid (by unfold nextR; rw [hs1, firstR_cons]; simp)
      have HZ := Lib.hid hsz
      have hszl : s.size ≤ r.length + 1 := by omega
      have hszg : r.length + 1 ≤ s.size := by omega
      clear h0c hs1 hget hext hsz n1 n2 n3 n4
      go_enter Tryd.func30, Tryd.ntmps30
      go_wp2_with fail
      go_loop [4] (fun i => ∃ k : Nat, 1 ≤ k ∧ k ≤ s.size ∧ i = .int .i64 k ∧ ∀ j, j + 1 < k → r[j]? = some 59 → nameL (r.take j) = false) (fun i => s.size - (intOf i).toNat)
      case atStart => exact ⟨1, Nat.le_refl _, by omega, rfl, fun j h1 => by omega⟩
      case round =>
        obtain ⟨k, hk1, hk, rfl, hr⟩ := hrel
        have HR := Lib.hid hr
        clear hr
        by_cases hlt : k < s.size
        · have hgk := HG.out k hlt hk1
          by_cases h59 : (s[k].toNat : Int) = 59
          · have h59' : s[k] = 59 := UInt8.toNat_inj.1 (by show s[k].toNat = 59; omega)
            rw [h59'] at hgk
            have hl : (bx (r.take (k - 1))).size ≤ maxLen := by rw [bx_size, List.length_take]; unfold maxLen; omega
            have hsplit : r = r.take (k - 1) ++ 59 :: r.drop k := by
              have h1 := (List.getElem?_eq_some_iff.1 hgk)
              obtain ⟨h2, h3⟩ := h1
              have := List.take_append_drop (k - 1) r
              rw [List.drop_eq_getElem_cons h2, h3, show k - 1 + 1 = k from by omega] at this
              exact this.symm
            cases hn : nameL (r.take (k - 1)) with
            | true =>
              have hR := refR_hit hsplit hn
              have HF2 : Hid (nextR s.data.toList = ((4, bx (r.take (k - 1))), k + 1)) := Lib.hid (by
                rw [HF.out, hR]
                show (_, _) = (_, _)
                rw [List.length_drop]
                congr 1
                omega)
              have hn' : nameB (bx (r.take (k - 1))) = true := hn
              clear hn hR hsplit hgk h59'
              go_wp2_with fail
              rw [HX.out k hk hk1]
              refine (rname_any _ _ hl).mono ?_
              rintro e w' ⟨rfl, rfl⟩
              go_wp2_with fail
              refine bodyPost_ret (v := .tuple #[.agg #[.int .i64 4, .string (bx (r.take (k - 1)))], .int .i64 (k + 1)]) (by simp [results, Tryd.results30, go_sem, HX.out k hk hk1]) rfl ⟨by rw [HF2.out]; rfl, ?_⟩
              repeat (first | exact Below.refl _ _ | assumption | refine Below.setCell (p := ⟨_, _, _⟩) ?_ (by first | (simp; done) | (simp; omega) | omega) _ | refine below_drewN ?_ _ | refine Below.drew ?_ | refine Below.alloc ?_ (by first | (simp; done) | (simp; omega) | omega) _)
            | false =>
              have HS : Hid (∀ j, j + 1 < k + 1 → r[j]? = some 59 → nameL (r.take j) = false) := Lib.hid (by
                intro j hj h
                by_cases e : j + 1 = k
                · have : j = k - 1 := by omega
                  subst this
                  exact hn
                · exact HR.out j (by omega) h)
              have hn' : nameB (bx (r.take (k - 1))) = false := hn
              clear hn hsplit hgk h59'
              go_wp2_with fail
              rw [HX.out k hk hk1]
              refine (rname_any _ _ hl).mono ?_
              rintro e w' ⟨rfl, rfl⟩
              go_wp2_with fail
              go_round
              case rel => exact ⟨k + 1, by omega, by omega, by go_num, HS.out⟩
              case measure => simp [intOf]; omega
          · have HS : Hid (∀ j, j + 1 < k + 1 → r[j]? = some 59 → nameL (r.take j) = false) := Lib.hid (by
              intro j hj h
              by_cases e : j + 1 = k
              · have : j = k - 1 := by omega
                subst this
                rw [hgk] at h
                simp only [Option.some.injEq] at h
                exact absurd (by rw [h]; rfl) h59
              · exact HR.out j (by omega) h)
            have h59' : ((s[k].toNat : Int) == 59) = false := by rw [beq_eq_false_iff_ne]; exact h59
            clear h59 hgk
            go_wp2_with fail
            go_round
            case rel => exact ⟨k + 1, by omega, by omega, by go_num, HS.out⟩
            case measure => simp [intOf]; omega
        · have hR : refR r = (t0, [], false) := refR_miss (fun j hj h => HR.out j (by omega) h)
          have HF2 : Hid (nextR s.data.toList = (t0, 0)) := Lib.hid (by rw [HF.out, hR]; rfl)
          clear hR
          go_wp2_with fail
          refine bodyPost_ret (v := .tuple #[.agg #[.int .i64 0, .string (bx [])], .int .i64 0]) (by simp [*, results, Tryd.results30, go_sem, bx]) rfl ⟨by rw [HF2.out]; rfl, ?_⟩
          repeat (first | exact Below.refl _ _ | assumption | refine Below.setCell (p := ⟨_, _, _⟩) ?_ (by first | (simp; done) | (simp; omega) | omega) _ | refine below_drewN ?_ _ | refine Below.drew ?_ | refine Below.alloc ?_ (by first | (simp; done) | (simp; omega) | omega) _)
    · have n5 : ((s[0].toNat : Int) == 76) = false := by
        rw [beq_eq_false_iff_ne, h0c]
        intro e
        exact h5 (UInt8.toNat_inj.1 (by show c.toNat = 76; omega))
      have HF : Hid (nextR s.data.toList = (t0, 0)) := Lib.hid (by unfold nextR; rw [hs1, firstR_cons, if_neg h1, if_neg h2, if_neg h3, if_neg h4, if_neg h5]; rfl)
      clear h0c hs1
      go_enter Tryd.func30, Tryd.ntmps30
      go_wp2_with fail
      refine bodyPost_ret (v := .tuple #[.agg #[.int .i64 0, .string (bx [])], .int .i64 0]) (by simp [*, results, Tryd.results30, go_sem, bx]) rfl ⟨by rw [HF.out]; rfl, ?_⟩
      repeat (first | exact Below.refl _ _ | assumption | refine Below.setCell (p := ⟨_, _, _⟩) ?_ (by first | (simp; done) | (simp; omega) | omega) _ | refine below_drewN ?_ _ | refine Below.drew ?_ | refine Below.alloc ?_ (by first | (simp; done) | (simp; omega) | omega) _)

theorem nextR_one (s : List UInt8) : oneR s = if (nextR s).2 = 0 ∨ ¬ (nextR s).2 = s.length then (t0, false) else ((nextR s).1, true) := by
  unfold oneR nextR
  obtain ⟨t, rest, ok, hR⟩ : ∃ t rest ok, firstR s = (t, rest, ok) := ⟨_, _, _, rfl⟩
  rw [hR]
  cases ok with
  | false => simp
  | true =>
    have hl := firstR_len hR
    cases rest with
    | nil =>
      simp only [List.length_nil] at hl
      show (if ((true && true) = true) then (t, true) else (t0, false)) = if s.length - 0 = 0 ∨ ¬ s.length - 0 = s.length then (t0, false) else (t, true)
      rw [if_pos (by rfl), if_neg (by omega)]
    | cons d rest =>
      show (if ((true && false) = true) then (t, true) else (t0, false)) = if s.length - (d :: rest).length = 0 ∨ ¬ s.length - (d :: rest).length = s.length then (t0, false) else (t, true)
      simp only [List.length_cons] at hl ⊢
      rw [if_neg (by simp), if_pos (by omega)]

theorem nextR_le (s : List UInt8) : (nextR s).2 ≤ s.length := by
  unfold nextR
  split <;> simp

set_option maxHeartbeats 400000 in
theorem rone_any (s : ByteArray) (w : World) (hs : s.size ≤ 4294967280) :
    Calls Tryd.prog 31 #[.string s] w fun e w' => e = .returned (.tuple #[tyv (oneR s.data.toList).1, .bool (oneR s.data.toList).2]) ∧ Below w.heap.size w w' := by
  have hle := nextR_le s.data.toList
  have h1 := nextR_one s.data.toList
  rw [← Lib.size_eq] at h1 hle
  obtain ⟨⟨k, c⟩, n, hR⟩ : ∃ t n, nextR s.data.toList = (t, n) := ⟨_, _, rfl⟩
  rw [hR] at h1 hle
  have HV : Hid (Value.tuple #[tyv (nextR s.data.toList).1, .int .i64 (nextR s.data.toList).2] = Value.tuple #[.agg #[.int .i64 k, .string c], .int .i64 n]) := Lib.hid (by rw [hR]; rfl)
  simp only at h1 hle
  have H1 := Lib.hid h1
  clear hR h1
  by_cases hn : n = 0
  · subst hn
    have HF : Hid (oneR s.data.toList = (t0, false)) := Lib.hid (by rw [H1.out, if_pos (.inl rfl)])
    go_enter Tryd.func31, Tryd.ntmps31
    go_wp2_with fail
    refine (next_any s _ hs).mono ?_
    rintro e w1 ⟨rfl, hb1⟩
    rw [HV.out]
    obtain ⟨hlt1, hne1, hc0, hc1, hf0, hf1, hb2⟩ := box2 hb1
    clear hb1
    go_wp2_with fail
    refine bodyPost_ret (v := .tuple #[.agg #[.int .i64 0, .string (bx [])], .bool false]) (by simp [*, results, Tryd.results31, go_sem, bx]) rfl ⟨by rw [HF.out]; rfl, ?_⟩
    repeat (first | exact Below.refl _ _ | assumption | refine Below.setCell (p := ⟨_, _, _⟩) ?_ (by first | (simp; done) | (simp; omega) | omega) _ | refine below_drewN ?_ _ | refine Below.drew ?_ | refine Below.alloc ?_ (by first | (simp; done) | (simp; omega) | omega) _)
  have hn0 : ((n : Int) == 0) = false := by rw [beq_eq_false_iff_ne]; omega
  by_cases hq : n = s.size
  · have HF : Hid (oneR s.data.toList = ((k, c), true)) := Lib.hid (by rw [H1.out, if_neg (fun h => h.elim hn (fun h => h hq))])
    have hn1 : ((n : Int) != s.size) = false := by rw [bne_eq_false_iff_eq]; omega
    clear hn hq
    go_enter Tryd.func31, Tryd.ntmps31
    go_wp2_with fail
    refine (next_any s _ hs).mono ?_
    rintro e w1 ⟨rfl, hb1⟩
    rw [HV.out]
    obtain ⟨hlt1, hne1, hc0, hc1, hf0, hf1, hb2⟩ := box2 hb1
    clear hb1
    go_wp2_with fail
    refine bodyPost_ret (v := .tuple #[.agg #[.int .i64 k, .string c], .bool true]) (by simp [*, results, Tryd.results31, go_sem]) rfl ⟨by rw [HF.out]; rfl, ?_⟩
    repeat (first | exact Below.refl _ _ | assumption | refine Below.setCell (p := ⟨_, _, _⟩) ?_ (by first | (simp; done) | (simp; omega) | omega) _ | refine below_drewN ?_ _ | refine Below.drew ?_ | refine Below.alloc ?_ (by first | (simp; done) | (simp; omega) | omega) _)
  · have HF : Hid (oneR s.data.toList = (t0, false)) := Lib.hid (by rw [H1.out, if_pos (.inr hq)])
    have hn1 : ((n : Int) != s.size) = true := by rw [bne_iff_ne]; omega
    clear hn hq
    go_enter Tryd.func31, Tryd.ntmps31
    go_wp2_with fail
    refine (next_any s _ hs).mono ?_
    rintro e w1 ⟨rfl, hb1⟩
    rw [HV.out]
    obtain ⟨hlt1, hne1, hc0, hc1, hf0, hf1, hb2⟩ := box2 hb1
    clear hb1
    go_wp2_with fail
    refine bodyPost_ret (v := .tuple #[.agg #[.int .i64 0, .string (bx [])], .bool false]) (by simp [*, results, Tryd.results31, go_sem, bx]) rfl ⟨by rw [HF.out]; rfl, ?_⟩
    repeat (first | exact Below.refl _ _ | assumption | refine Below.setCell (p := ⟨_, _, _⟩) ?_ (by first | (simp; done) | (simp; omega) | omega) _ | refine below_drewN ?_ _ | refine Below.drew ?_ | refine Below.alloc ?_ (by first | (simp; done) | (simp; omega) | omega) _)

end Go.Proofs.YtibciicpgjgjbaaDoor
