/- What Text answers. -/
import Derived.Test.YtnpbhpidciiciaaText
namespace Go.Proofs.Ytnpbhpidciiciaa
open Go.RowKit

/-- bytes as a text -/
def tx (l : List UInt8) : ByteArray := ⟨l.toArray⟩
theorem tx_size (l : List UInt8) : (tx l).size = l.length := by
  show l.toArray.size = l.length
  simp

theorem tx_sb (s : ByteArray) : tx (sb s) = s := rfl

theorem conv_rd {w : World} {v : Value} {l : List UInt8} (h : Rd w v l) : (convert 23 9 v).run Try.prog w = .ok (.string (tx l)) w := by
  obtain ⟨p, cap, rfl, hle, hn, hc⟩ := h
  cases p with
  | none =>
    have h0 := hn rfl
    have hl0 : l = [] := List.eq_nil_of_length_eq_zero (by omega)
    subst hl0
    exact run_convert_bytes_nil w 23 5 Try.underlying23 Try.underlying5 _ _ 9 Try.underlying9
  | some a =>
    exact run_convert_bytes_back w 23 9 5 a cap l Try.underlying23 Try.underlying5 Try.underlying9 (fun j hj => hc a rfl j l[j] (List.getElem?_eq_getElem hj))

theorem conv_zero (w : World) (a : Option Addr) (c : Nat) : (convert 23 9 (.slice a 0 c)).run Try.prog w = .ok (.string (tx [])) w := by
  cases a with
  | none => exact run_convert_bytes_nil w 23 5 Try.underlying23 Try.underlying5 _ _ 9 Try.underlying9
  | some a => exact run_convert_bytes_back w 23 9 5 a c [] Try.underlying23 Try.underlying5 Try.underlying9 (fun j hj => by simp at hj)

theorem conv_cut {w : World} {B : Nat} {p : Option Addr} {c : Nat} {bs : List UInt8} (ho : Own w B (.slice p bs.length c) bs) (j a : Nat) (hj : j ≤ bs.length) (hc : ¬ c = j) (ha : a ≤ bs.length - j) (C : Nat) :
    (convert 23 9 (.slice (Option.map (fun x => x.add j) p) a C)).run Try.prog w = .ok (.string (tx ((bs.drop j).take a))) w := by
  have hlen : ((bs.drop j).take a).length = a := by rw [List.length_take, List.length_drop]; omega
  rcases ho.2 with ⟨h, h0⟩ | ⟨g, cap, cur, h, _, _, h1, _, _⟩
  · simp only [Value.slice.injEq] at h
    omega
  · simp only [Value.slice.injEq] at h
    obtain ⟨rfl, _, rfl⟩ := h
    have hb := run_convert_bytes_back (P := Try.prog) w 23 9 5 ((⟨g, 0, none⟩ : Addr).add j) C ((bs.drop j).take a) Try.underlying23 Try.underlying5 Try.underlying9 (fun i hi => by
      have hib : j + i < bs.length := by rw [hlen] at hi; omega
      have hcell := World.ownsRow.cells ho (g := g) rfl (j + i) (u8 bs[j + i]) (by simp [hib])
      have e1 : ((⟨g, 0, none⟩ : Addr).add j).add i = (⟨g, 0, none⟩ : Addr).add (j + i) := by
        unfold Addr.add
        by_cases hj0 : j = 0
        · subst hj0; simp
        · by_cases hi0 : i = 0
          · subst hi0; simp
          · simp [hj0, hi0]
      rw [e1, hcell]
      simp [u8])
    rw [hlen] at hb
    exact hb

/-- what Text answers, and where the Reader stands behind it -/
def textR (bs : List UInt8) (k e m : Nat) : List UInt8 × Nat × Nat :=
  let r := lookR bs k e m
  if r.2.2 = 0 then
    if bs.length - (k + r.2.1) < r.1 then ([], k, 20) else ((bs.drop (k + r.2.1)).take r.1, k + r.2.1 + r.1, 0)
  else ([], k, r.2.2)

theorem ret_str {a b : ByteArray} (h : a = b) : Ending.returned (.string a) = .returned (.string b) := by rw [h]

set_option maxHeartbeats 400000 in
set_option maxRecDepth 100000 in
theorem rtext_any (B rb : Nat) (bs : List UInt8) (k e : Nat) (most : Int) (w : World) (h : Rdr w B rb bs k e) (he : e < 100) (hl : bs.length ≤ 400000) (h1 : -9223372036854775808 ≤ most) (h2 : most ≤ 9223372036854775807) :
    Calls Try.prog 30 #[.pointer (some ⟨rb, 0, none⟩), .int .i64 most] w fun r w' => ∃ (l : List UInt8) (k' e' : Nat), Hid (textR bs k e (cnt most) = (l, k', e')) ∧ r = .returned (.string (tx l)) ∧ Gone w w' B rb bs k' e' := by
  have hu := toNat_u64 h2
  have hk := h.2.1
  obtain ⟨sl, ho, hn, hlt, c0, c1, c2, hf⟩ := h.cells
  clear hf
  obtain ⟨p, c, rfl, hc, _⟩ := ho.len
  have hz : ∀ (w : World) (a : Option Addr) (c : Nat), (convert 23 9 (.slice a 0 c)).run Try.prog w = .ok (.string (tx [])) w := conv_zero
  have hzs : (tx []).size = 0 := tx_size []
  go_enter Try.func30, Try.ntmps30
  go_wp2_with fail
  refine (count_any most _ h1 h2).mono ?_
  rintro x w' ⟨rfl, rfl⟩
  go_wp2_with fail
  refine (look_tup B rb bs k e _ _ h hu).mono ?_
  rintro r w1 ⟨a, s, x, n, HL, rfl, rfl⟩
  have hf := lookR_facts bs k e _ a s x hk he HL.out
  have ha : a ≤ 9223372036854775807 := Nat.le_trans hf.1 (by unfold cnt; omega)
  have hs9 : s ≤ 9 := by have := hf.2; omega
  have hx1 := hf.2.2.2
  have hks : k + s ≤ bs.length := by have := hf.2; omega
  by_cases hx0 : x = 0
  · subst hx0
    have HF := Lib.hid hf
    clear hf
    by_cases hshort : bs.length - (k + s) < a
    · have HS := Lib.hid hshort
      have hfin : textR bs k e (cnt most) = ([], k, 20) := by unfold textR; rw [HL.out]; simp [hshort]
      have HT := Lib.hid hfin
      clear hfin
      by_cases hck : c = k + s
      all_goals
        go_wp2
        go_quiet (fail)
        go_wp2_with fail
        refine (take_any B rb bs k e s 20 _ (h.drewN _) (by omega) (fun h0 => by omega) (by omega) (by omega)).mono ?_
        rintro r w2 ⟨rfl, hg⟩
        have HG := Lib.hid hg
        clear hg
        go_wp2
        go_ret
        exact ⟨[], k, 20, HT, rfl, (show Gone (w.drewN _) w2 B rb bs k 20 from HG.out).drewN⟩
    · have HS := Lib.hid hshort
      have he0 : e = 0 := lookR_err HL.out rfl
      have hfin : textR bs k e (cnt most) = ((bs.drop (k + s)).take a, k + s + a, 0) := by unfold textR; rw [HL.out]; simp [hshort]
      have HT := Lib.hid hfin
      clear hfin
      subst he0
      by_cases hck : c = k + s
      · have ha0 : a = 0 := by omega
        subst ha0
        go_wp2
        go_quiet (fail)
        go_wp2_with fail
        refine (take_any B rb bs k 0 s 0 _ (h.drewN _) (by omega) (fun _ => hks) (by omega) (by omega)).mono ?_
        rintro r w2 ⟨rfl, hg⟩
        have HG := Lib.hid hg
        clear hg
        go_wp2
        go_ret
        exact ⟨[], k + s, 0, Lib.hid (by have := HT.out; simpa using this), rfl, (show Gone (w.drewN _) w2 B rb bs (k + s) 0 from HG.out).drewN⟩
      · have hcv : ∀ (q C : Nat), (convert 23 9 (.slice (Option.map ((fun x => x) ∘ fun x => x.add (k + s)) p) a C)).run Try.prog (w.drewN q) = .ok (.string (tx ((bs.drop (k + s)).take a))) (w.drewN q) :=
          fun q C => conv_cut (w := w.drewN q) ho (k + s) a hks hck (by omega) C
        have hts : (tx ((bs.drop (k + s)).take a)).size = a := by rw [tx_size, List.length_take, List.length_drop]; omega
        go_wp2
        go_quiet (fail)
        go_wp2_with fail
        have e2 : ((s : Int) + (a : Int)) = ((s + a : Nat) : Int) := by omega
        rw [e2]
        refine (take_any B rb bs k 0 (s + a) 0 _ (h.drewN _) (by omega) (fun _ => by omega) (by omega) (by omega)).mono ?_
        rintro r w2 ⟨rfl, hg⟩
        have HG := Lib.hid hg
        clear hg hcv hts e2
        go_wp2
        go_ret
        exact ⟨_, k + s + a, 0, HT, rfl, by rw [Nat.add_assoc]; exact (show Gone (w.drewN _) w2 B rb bs (k + (s + a)) 0 from HG.out).drewN⟩
  · obtain ⟨rfl, rfl⟩ := hf.2.2.1 hx0
    have hxb : ((x : Int) == 0) = false := beq_eq_false_iff_ne.2 (by omega)
    have hfin : textR bs k e (cnt most) = ([], k, x) := by unfold textR; rw [HL.out]; simp [hx0]
    have HT := Lib.hid hfin
    clear hfin hf
    by_cases hck : c = k
    all_goals
      go_wp2
      go_quiet (fail)
      go_wp2_with fail
      refine (take_any B rb bs k e 0 x _ (h.drewN _) hx1 (fun h0 => absurd h0 hx0) (by omega) (by omega)).mono ?_
      rintro r w2 ⟨rfl, hg⟩
      rw [if_neg hx0] at hg
      have HG := Lib.hid hg.drewN
      clear hg
      go_wp2
      go_ret
      exact ⟨[], k, x, HT, rfl, HG.out⟩

end Go.Proofs.Ytnpbhpidciiciaa
