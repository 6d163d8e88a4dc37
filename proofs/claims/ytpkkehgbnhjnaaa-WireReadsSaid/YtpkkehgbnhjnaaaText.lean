/- What Two and Text answer. -/
import Derived.Test.YtpkkehgbnhjnaaaRead
namespace Go.Proofs.Ytpkkehgbnhjnaaa
open Go.RowKit

/-- what lookTwo answers -/
def lookTwoR (bs : List UInt8) (k e m : Nat) : Nat × Nat :=
  if e = 0 then
    match bs.drop k with
    | a :: b :: _ => if m < a.toNat + b.toNat * 256 then (0, 22) else (a.toNat + b.toNat * 256, 0)
    | _ => (0, 20)
  else (0, e)

theorem lookTwoR_short {bs : List UInt8} {k m : Nat} (h : bs.length - k < 2) : lookTwoR bs k 0 m = (0, 20) := by
  have hl : (bs.drop k).length < 2 := by simpa using h
  unfold lookTwoR
  rw [if_pos rfl]
  match hd : bs.drop k with
  | [] => rfl
  | [_] => rfl
  | a :: b :: r => rw [hd] at hl; simp at hl; omega

theorem lookTwoR_long {bs : List UInt8} {k m a b g : Nat} {w : World} (ha : Byte w g bs k a) (hb : Byte w g bs (k + 1) b) :
    lookTwoR bs k 0 m = if m < a + b * 256 then (0, 22) else (a + b * 256, 0) := by
  obtain ⟨ca, rfl, hx, _⟩ := ha
  obtain ⟨cb, rfl, hy, _⟩ := hb
  obtain ⟨hlt, hx⟩ := List.getElem?_eq_some_iff.1 hx
  obtain ⟨hlt2, hy⟩ := List.getElem?_eq_some_iff.1 hy
  unfold lookTwoR
  rw [if_pos rfl, List.drop_eq_getElem_cons hlt, List.drop_eq_getElem_cons hlt2, hx, hy]

set_option maxHeartbeats 400000 in
set_option maxRecDepth 100000 in
theorem ltwo_err (B rb : Nat) (bs : List UInt8) (k e m : Nat) (w : World) (h : Rdr w B rb bs k e) (he : e ≠ 0) :
    Calls Try.prog 40 #[.pointer (some ⟨rb, 0, none⟩), .int .u64 m] w fun r w' => ∃ n, r = .returned (.tuple #[.int .u64 0, .int .i64 e]) ∧ w' = w.drewN n := by
  have hk := h.2.1
  obtain ⟨sl, ho, hn, hlt, c0, c1, c2, hf⟩ := h.cells
  clear hf
  obtain ⟨p, c, rfl, hc, _⟩ := ho.len
  have hen : ((e : Int) != 0) = true := by rw [bne_iff_ne]; omega
  have heb : ((e : Int) == 0) = false := beq_eq_false_iff_ne.2 (by omega)
  by_cases hck : c = k
  all_goals
    go_enter Try.func40, Try.ntmps40
    go_wp2
    go_quiet (fail)
    go_wp2
    go_quiet (fail)
    go_wp2
    go_ret2
    exact ⟨_, rfl, World.drewN_drewN _ _ _⟩

set_option maxHeartbeats 400000 in
set_option maxRecDepth 100000 in
theorem ltwo_short (B rb : Nat) (bs : List UInt8) (k m : Nat) (w : World) (h : Rdr w B rb bs k 0) (hs : bs.length - k < 2) :
    Calls Try.prog 40 #[.pointer (some ⟨rb, 0, none⟩), .int .u64 m] w fun r w' => ∃ n, r = .returned (.tuple #[.int .u64 0, .int .i64 20]) ∧ w' = w.drewN n := by
  have hk := h.2.1
  obtain ⟨sl, ho, hn, hlt, c0, c1, c2, hf⟩ := h.cells
  clear hf
  obtain ⟨p, c, rfl, hc, _⟩ := ho.len
  by_cases hck : c = k
  all_goals
    go_enter Try.func40, Try.ntmps40
    go_wp2
    go_quiet (fail)
    go_wp2
    go_ret2
    exact ⟨_, rfl, rfl⟩

/-- what two bytes tell -/
def twoR (a b m : Nat) : Nat × Nat := if m < a + b * 256 then (0, 22) else (a + b * 256, 0)

def pair (r : Nat × Nat) : Value := .tuple #[.int .u64 r.1, .int .i64 r.2]

theorem pair_eq (r : Nat × Nat) (a b : Nat) (c : Int) (h : r = (a, b)) (hc : c = a) : Ending.returned (.tuple #[.int .u64 c, .int .i64 b]) = Ending.returned (pair r) := by rw [h, hc]; rfl

theorem or256 (a b : Nat) (ha : a < 256) (hb : b < 256) : bits .or .u64 (a : Int) ((b : Int) * 256) = (a : Int) + (b : Int) * 256 := by
  have h := join a b 8 (by omega) (show b * 2 ^ 8 < 18446744073709551616 by omega) (show a < 18446744073709551616 by omega)
  have e : ((b * 2 ^ 8 : Nat) : Int) = (b : Int) * 256 := by omega
  rw [e] at h
  rw [h]
  omega

set_option maxHeartbeats 400000 in
set_option maxRecDepth 100000 in
theorem ltwo_long (rb : Nat) (bs : List UInt8) (k m g c a b : Nat) (w : World) (hs : ¬ bs.length - k < 2) (hc : bs.length ≤ c) (ha : a < 256) (hb : b < 256)
    (c0 : w.cell? ⟨rb, 0, none⟩ = some (.slice (some ⟨g, 0, none⟩) bs.length c)) (c1 : w.cell? ⟨rb, 1, none⟩ = some (.int .i64 k)) (c2 : w.cell? ⟨rb, 2, none⟩ = some (.int .i64 0))
    (ca : w.cell? ⟨g, k, none⟩ = some (.int .u8 (a : Int))) (cb : w.cell? ⟨g, k + 1, none⟩ = some (.int .u8 (b : Int))) :
    Calls Try.prog 40 #[.pointer (some ⟨rb, 0, none⟩), .int .u64 m] w fun r w' => r = .returned (pair (twoR a b m)) ∧ Drawn w w' := by
  have hck : ¬ c = k := by omega
  have hor := or256 a b ha hb
  by_cases hm : m < a + b * 256
  · go_enter Try.func40, Try.ntmps40
    go_wp2
    go_quiet (fail)
    go_wp2
    go_quiet (fail)
    go_wp2
    go_ret2
    exact ⟨pair_eq _ 0 22 _ (by unfold twoR; rw [if_pos hm]) rfl, ⟨_, rfl⟩⟩
  · go_enter Try.func40, Try.ntmps40
    go_wp2
    go_quiet (fail)
    go_wp2
    go_quiet (fail)
    go_wp2
    go_ret2
    exact ⟨pair_eq _ (a + b * 256) 0 _ (by unfold twoR; rw [if_neg hm]) (by omega), ⟨_, rfl⟩⟩

theorem ltwo_any (B rb : Nat) (bs : List UInt8) (k e m : Nat) (w : World) (h : Rdr w B rb bs k e) :
    Calls Try.prog 40 #[.pointer (some ⟨rb, 0, none⟩), .int .u64 m] w fun r w' => ∃ a x n : Nat, Hid (lookTwoR bs k e m = (a, x)) ∧ r = .returned (.tuple #[.int .u64 a, .int .i64 x]) ∧ w' = w.drewN n := by
  by_cases he : e = 0
  · subst he
    by_cases hs : bs.length - k < 2
    · exact (ltwo_short B rb bs k m w h hs).mono fun _ _ ⟨n, h1, h2⟩ => ⟨0, 20, n, Lib.hid (lookTwoR_short hs), h1, h2⟩
    · obtain ⟨sl, ho, _, _, c0, c1, c2, _⟩ := h.cells
      have ho' := ho
      rcases ho.2 with ⟨rfl, h0⟩ | ⟨g, cap, cur, rfl, _, _, h1, _, _⟩
      · omega
      · obtain ⟨a, ha, hba⟩ := byte_of ho' k (by omega)
        obtain ⟨b, hb, hbb⟩ := byte_of ho' (k + 1) (by omega)
        exact (ltwo_long rb bs k m g cap a b w hs h1 ha hb c0 c1 c2 hba.cell hbb.cell).mono fun _ _ ⟨h2, n, h3⟩ =>
          ⟨(twoR a b m).1, (twoR a b m).2, n, Lib.hid (lookTwoR_long hba hbb), h2, h3⟩
  · exact (ltwo_err B rb bs k e m w h he).mono fun _ _ ⟨n, h1, h2⟩ => ⟨0, e, n, Lib.hid (by unfold lookTwoR; rw [if_neg he]), h1, h2⟩

theorem lookTwoR_facts (bs : List UInt8) (k e m a x : Nat) (he : e < 100) (h : lookTwoR bs k e m = (a, x)) :
    a ≤ m ∧ (x = 0 → k + 2 ≤ bs.length ∧ e = 0) ∧ (x ≠ 0 → a = 0) ∧ x < 100 := by
  unfold lookTwoR at h
  by_cases he0 : e = 0
  · rw [if_pos he0] at h
    match hd : bs.drop k with
    | [] => rw [hd] at h; simp at h; omega
    | [_] => rw [hd] at h; simp at h; omega
    | c :: d :: r =>
      have hl : (bs.drop k).length = r.length + 2 := by rw [hd]; simp
      rw [List.length_drop] at hl
      rw [hd] at h
      simp only at h
      split at h
      · simp only [Prod.mk.injEq] at h
        omega
      · simp only [Prod.mk.injEq] at h
        omega
  · rw [if_neg he0] at h
    simp only [Prod.mk.injEq] at h
    omega

/-- what Two answers, and where the Reader stands behind it -/
def rtwoR (bs : List UInt8) (k e m : Nat) : Nat × Nat × Nat :=
  if (lookTwoR bs k e m).2 = 0 then ((lookTwoR bs k e m).1, k + 2, 0) else (0, k, (lookTwoR bs k e m).2)

set_option maxHeartbeats 400000 in
set_option maxRecDepth 100000 in
theorem rtwo_any (B rb : Nat) (bs : List UInt8) (k e : Nat) (most : Int) (w : World) (h : Rdr w B rb bs k e) (he : e < 100) (hl : bs.length ≤ 400000) (h1 : -9223372036854775808 ≤ most) (h2 : most ≤ 9223372036854775807) :
    Calls Try.prog 25 #[.pointer (some ⟨rb, 0, none⟩), .int .i64 most] w fun r w' => ∃ v k' e' : Nat, Hid (rtwoR bs k e (cnt most) = (v, k', e')) ∧ r = .returned (.int .i64 v) ∧ Gone w w' B rb bs k' e' := by
  have hk := h.2.1
  go_enter Try.func25, Try.ntmps25
  go_wp2_with fail
  refine (count_any most _ h1 h2).mono ?_
  rintro x w' ⟨rfl, rfl⟩
  go_wp2_with fail
  refine (ltwo_any B rb bs k e _ _ h).mono ?_
  rintro r w1 ⟨a, x, n, HL, rfl, rfl⟩
  have hf := lookTwoR_facts bs k e _ a x he HL.out
  have ha : a ≤ 9223372036854775807 := Nat.le_trans hf.1 (by unfold cnt; omega)
  have hx1 := hf.2.2.2
  have HF := Lib.hid hf
  clear hf
  go_wp2_with fail
  refine (take_any B rb bs k e 2 x _ (h.drewN n) hx1 (fun h0 => (HF.out.2.1 h0).1) (by omega) (by omega)).mono ?_
  rintro r w2 ⟨rfl, hg⟩
  have HG := Lib.hid hg
  clear hg
  go_wp2
  go_ret
  refine ⟨a, if x = 0 then k + 2 else k, x, ?_, rfl, ((Gone.of he HG.out (fun h0 => (HF.out.2.1 h0).2))).drewN⟩
  show rtwoR _ _ _ _ = _
  unfold rtwoR
  rw [HL.out]
  by_cases h0 : x = 0
  · simp [h0]
  · have := HF.out.2.2.1 h0
    simp [h0, this]

end Go.Proofs.Ytpkkehgbnhjnaaa
