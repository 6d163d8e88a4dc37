/- What the answers' own Reader answers: Text. -/
import Derived.Test.YtnpbhpidciiciaaRefRd3
namespace Go.Proofs.Ytnpbhpidciiciaa
open Go.RowKit

theorem textR_num {bs : List UInt8} {k e m v k' e' : Nat} (h : numR bs k e m = (v, k', e')) :
    textR bs k e m = if e' = 0 then (if bs.length - k' < v then ([], k, 20) else ((bs.drop k').take v, k' + v, 0)) else ([], k, e') := by
  rcases hL : lookR bs k e m with ⟨a, s, x⟩
  rw [numR_look hL] at h
  unfold textR
  rw [hL]
  by_cases hx : x = 0
  · rw [if_pos hx] at h
    simp only [Prod.mk.injEq] at h
    obtain ⟨rfl, rfl, rfl⟩ := h
    simp [hx]
  · rw [if_neg hx] at h
    simp only [Prod.mk.injEq] at h
    obtain ⟨_, _, rfl⟩ := h
    simp [hx]

theorem conv_cutR {w : World} {p : Option Addr} {c : Nat} {bs : List UInt8} (hr : Rd w (.slice p bs.length c) bs) (j a : Nat) (hj : j ≤ bs.length) (hc : ¬ c = j) (ha : a ≤ bs.length - j) (C : Nat) :
    (convert 23 9 (.slice (Option.map (fun x => x.add j) p) a C)).run Try.prog w = .ok (.string (tx ((bs.drop j).take a))) w := by
  have hlen : ((bs.drop j).take a).length = a := by rw [List.length_take, List.length_drop]; omega
  obtain ⟨p', c', hpc, hle, hn, hcell⟩ := hr
  simp only [Value.slice.injEq] at hpc
  obtain ⟨rfl, _, rfl⟩ := hpc
  cases p with
  | none => have := hn rfl; omega
  | some ad =>
    have hb := run_convert_bytes_back (P := Try.prog) w 23 9 5 (ad.add j) C ((bs.drop j).take a) Try.underlying23 Try.underlying5 Try.underlying9 (fun i hi => by
      have hib : j + i < bs.length := by rw [hlen] at hi; omega
      have h1 := hcell ad rfl (j + i) bs[j + i] (List.getElem?_eq_getElem hib)
      have e1 : (ad.add j).add i = ad.add (j + i) := by
        unfold Addr.add
        by_cases hj0 : j = 0
        · subst hj0; simp
        · by_cases hi0 : i = 0
          · subst hi0; simp
          · simp [hj0, hi0]; omega
      rw [e1, h1]
      simp [u8])
    rw [hlen] at hb
    exact hb

theorem Ref.later {w : World} {M qb : Nat} {bs : List UInt8} {k e : Nat} (h : Ref w M qb bs k e) : ∃ p c, bs.length ≤ c ∧
    w.cell? ⟨qb, 0, none⟩ = some (.slice p bs.length c) ∧ w.cell? ⟨qb, 1, none⟩ = some (.int .i64 k) ∧ w.cell? ⟨qb, 2, none⟩ = some (.int .i64 e) ∧
    w.frozen? ⟨qb, 1, none⟩ = false ∧ ∀ (a b : Nat) (x : Value), Rd (((w.drewN a).setCell ⟨qb, 1, none⟩ x).drewN b) (.slice p bs.length c) bs := by
  obtain ⟨h1, h2, p, c, hb, hr, hv⟩ := h
  have hlt := (Array.getElem?_eq_some_iff.1 hb).1
  have hv' : bs = [] ∨ ∀ g, (Value.slice p bs.length c).ownBlock = some g → g < w.heap.size ∧ some g ≠ some qb := hv.imp id (fun h g hg => ⟨by have := h g hg; omega, by have := h g hg; intro e; cases e; omega⟩)
  obtain ⟨p', c', hpc, hle, _⟩ := id hr
  simp only [Value.slice.injEq] at hpc
  obtain ⟨rfl, _, rfl⟩ := hpc
  refine ⟨p, c, hle, ?_, ?_, ?_, ?_, fun a b x => ?_⟩
  · simp [World.cell?, hb]
  · simp [World.cell?, hb]
  · simp [World.cell?, hb]
  · simp [World.frozen?, hb]
  · exact hr.grown (grown_trans (grown_drewN w a _) (grown_trans (grown_set _ qb 1 x) (grown_drewN _ b _))) hv'

set_option maxHeartbeats 1000000 in
set_option maxRecDepth 100000 in
theorem ftextr_at {M qb : Nat} {bs l : List UInt8} {k e k2 e2 : Nat} {most : Int} {w : World} (hr : textR bs k e (cnt most) = (l, k2, e2)) (h : Ref w M qb bs k e) (he : e < 100) (hl : bs.length ≤ 400000) (h1 : -9223372036854775808 ≤ most) (h2 : most ≤ 9223372036854775807) :
    Calls Try.prog 32 #[.pointer (some ⟨qb, 0, none⟩), .int .i64 most] w fun r w' => r = .returned (.string (tx l)) ∧ GoneF w w' M qb bs k2 e2 := by
  have hk := h.2.1
  have hv := fun v k' e' (hn : numR bs k e (cnt most) = (v, k', e')) => numR_le hk he hn
  obtain ⟨p, c, hrd, hlc, hlt, c0, c1, c2, f1, f2⟩ := h.cells
  rcases hN : numR bs k e (cnt most) with ⟨v, k', e'⟩
  have hb := hv v k' e' hN
  have hvm : v ≤ 9223372036854775807 := Nat.le_trans hb.1 (by unfold cnt; omega)
  have hk' := hb.2.1
  rw [textR_num hN] at hr
  have HN := Lib.hid hN
  clear hN hrd hv hb
  have hz : ∀ (w : World) (a : Option Addr) (c : Nat), (convert 23 9 (.slice a 0 c)).run Try.prog w = .ok (.string (tx [])) w := conv_zero
  by_cases he0 : e' = 0
  · subst he0
    rw [if_pos rfl] at hr
    by_cases hsh : bs.length - k' < v
    · rw [if_pos hsh] at hr
      simp only [Prod.mk.injEq] at hr
      obtain ⟨rfl, rfl, rfl⟩ := hr
      have hshI : (bs.length : Int) - (k' : Int) < (v : Int) := by omega
      go_enter Try.func32, Try.ntmps32
      go_wp2_with fail
      refine (fnumr_at HN.out h hl h1 h2).mono ?_
      rintro r w1 ⟨rfl, hg1⟩
      have hr1 := hg1.1
      obtain ⟨p1, c1', _, _, _, d0, d1, d2, g1, g2⟩ := hr1.cells
      have HG := Lib.hid hg1
      clear hg1
      go_wp2
      go_quiet (fail)
      go_wp2_with fail
      refine (fail_any M qb bs k 0 20 _ ((hr1.drewN _).set.2 k hk).1).mono ?_
      rintro r w2 ⟨rfl, hg2⟩
      have hfin : GoneF w w2 M qb bs k 20 := ⟨hg2.1, grown_trans HG.out.2 (grown_trans (grown_drewN w1 _ _) (grown_trans (grown_set _ qb 1 _) hg2.2))⟩
      clear hg2
      go_wp2
      go_ret
      exact ⟨rfl, hfin⟩
    · rw [if_neg hsh] at hr
      simp only [Prod.mk.injEq] at hr
      obtain ⟨rfl, rfl, rfl⟩ := hr
      have hshI : (v : Int) ≤ (bs.length : Int) - (k' : Int) := by omega
      go_enter Try.func32, Try.ntmps32
      go_wp2_with fail
      refine (fnumr_at HN.out h hl h1 h2).mono ?_
      rintro r w1 ⟨rfl, hg1⟩
      have hr1 := hg1.1
      obtain ⟨p1, c1', hle1, d0, d1, d2, g1, hlat⟩ := hr1.later
      have HG := Lib.hid hg1
      have HL := Lib.hid hlat
      clear hg1 hlat
      by_cases hck : c1' = k'
      · obtain rfl : v = 0 := by omega
        go_wp2
        go_quiet (fail)
        go_wp2
        go_quiet (fail)
        go_wp2
        go_ret
        exact ⟨ret_str rfl, (((hr1.drewN _).set.2 k' hk').1.drewN _ : Ref _ M qb bs k' 0), grown_trans HG.out.2 (grown_trans (grown_drewN w1 _ _) (grown_trans (grown_set _ qb 1 _) (grown_drewN _ _ _)))⟩
      · have hcv : ∀ (a b C : Nat), (convert 23 9 (.slice (Option.map (fun x => x.add k') p1) v C)).run Try.prog (((w1.drewN a).setCell ⟨qb, 1, none⟩ (.int .i64 ((k' : Int) + (v : Int)))).drewN b) = .ok (.string (tx ((bs.drop k').take v))) (((w1.drewN a).setCell ⟨qb, 1, none⟩ (.int .i64 ((k' : Int) + (v : Int)))).drewN b) :=
          fun a b C => conv_cutR (HL.out a b _) k' v hk' hck (by omega) C
        go_wp2
        go_quiet (fail)
        go_wp2
        go_quiet (fail)
        go_wp2
        go_ret
        exact ⟨rfl, (((hr1.drewN _).set.2 (k' + v) (by omega)).1.drewN _ : Ref _ M qb bs (k' + v) 0), grown_trans HG.out.2 (grown_trans (grown_drewN w1 _ _) (grown_trans (grown_set _ qb 1 _) (grown_drewN _ _ _)))⟩
  · rw [if_neg he0] at hr
    simp only [Prod.mk.injEq] at hr
    obtain ⟨rfl, rfl, rfl⟩ := hr
    have heb : ((e' : Int) == 0) = false := beq_eq_false_iff_ne.2 (by omega)
    have hen : ((e' : Int) != 0) = true := by rw [bne_iff_ne]; omega
    have hkk : k' = k := by
      have hh := HN.out
      rcases hL : lookR bs k e (cnt most) with ⟨a, s, x⟩
      rw [numR_look hL] at hh
      by_cases hx : x = 0
      · rw [if_pos hx] at hh
        simp only [Prod.mk.injEq] at hh
        omega
      · rw [if_neg hx] at hh
        simp only [Prod.mk.injEq] at hh
        omega
    subst hkk
    go_enter Try.func32, Try.ntmps32
    go_wp2_with fail
    refine (fnumr_at HN.out h hl h1 h2).mono ?_
    rintro r w1 ⟨rfl, hg1⟩
    obtain ⟨p1, c1', _, _, _, d0, d1, d2, g1, g2⟩ := hg1.1.cells
    have HG := Lib.hid hg1
    clear hg1
    go_wp2
    go_ret
    exact ⟨rfl, HG.out⟩

end Go.Proofs.Ytnpbhpidciiciaa
