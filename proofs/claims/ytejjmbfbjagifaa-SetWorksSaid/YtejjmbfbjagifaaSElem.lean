/- Ints and texts: how they are ordered, and what isOdd, Less, Compare tell of them. -/
import Derived.Test.YtejjmbfbjagifaaSBase
namespace Go.Proofs.Ytejjmbfbjagifaa.S
open Go.RowKit Go.Maps

abbrev cI (x : Int) : Value := .int .i64 x
abbrev cS (x : ByteArray) : Value := .string x
def qI (x : Int) : Lit := .int .i64 x
def qS (x : ByteArray) : Lit := .string x.data.toList
def okI (x : Int) : Prop := (Lit.int .i64 x).wf = true
def okS (x : ByteArray) : Prop := x.size ≤ maxLen
def ltI (x y : Int) : Bool := decide (x < y)
def ltS (x y : ByteArray) : Bool := Op.bytesLess x.toList y.toList

theorem elI : El 3 cI qI okI where
  law := int_keyed Try.underlying3
  key h := keyOf_int_mk Try.underlying3 h
  inv h := by
    obtain ⟨x, h1, h2, h3⟩ := Maps.keyOf_int_inv Try.underlying3 h
    exact ⟨x, h1, h2, h3⟩
  inj h := by simpa [qI] using h
  isKey x := by unfold qI WideAt.IsKeyLit; trivial
  one _ := rfl
theorem keyOf_string_inv {P : Program} {k : TypeId} (hk : P.underlying k = some .string) {key : Value} {kl : Lit} (h : keyOf P k key = some kl) : ∃ x : ByteArray, key = .string x ∧ kl = .string x.data.toList ∧ x.size ≤ maxLen := by
  cases key <;> simp [keyOf, hk, mapKey] at h
  rename_i s
  exact ⟨s, rfl, h.2.symm, h.1⟩
theorem qS_inj {a b : ByteArray} (h : qS a = qS b) : a = b := by
  unfold qS at h
  simp only [Lit.string.injEq] at h
  obtain ⟨a⟩ := a
  obtain ⟨b⟩ := b
  simp only at h
  rw [Array.toList_inj.1 h]
theorem elS : El 9 cS qS okS where
  law := string_keyed Try.underlying9
  key h := WideMaps.keyOf_string_mk Try.underlying9 h
  inv h := by
    obtain ⟨x, h1, h2, h3⟩ := keyOf_string_inv Try.underlying9 h
    exact ⟨x, h1, h2, h3⟩
  inj h := qS_inj h
  isKey x := by unfold qS WideAt.IsKeyLit; trivial
  one _ := rfl

theorem toI : TO ltI where
  irr x := by simp [ltI]
  tr h1 h2 := by simp [ltI] at *; omega
  tot h1 h2 := by simp [ltI] at *; omega

theorem bl_irr : ∀ a : List UInt8, Op.bytesLess a a = false
  | [] => rfl
  | a :: l => by simp [Op.bytesLess, bl_irr l]
theorem bl_tr : ∀ {a b c : List UInt8}, Op.bytesLess a b = true → Op.bytesLess b c = true → Op.bytesLess a c = true
  | _, _, [], _, h => by simp [Op.bytesLess] at h
  | _, [], _ :: _, h, _ => by simp [Op.bytesLess] at h
  | [], _ :: _, _ :: _, _, _ => rfl
  | a :: l, b :: m, c :: n, h1, h2 => by
    simp only [Op.bytesLess, Bool.or_eq_true, decide_eq_true_eq, Bool.and_eq_true, beq_iff_eq] at h1 h2 ⊢
    rcases h1 with h1 | ⟨rfl, h1⟩
    · rcases h2 with h2 | ⟨rfl, h2⟩
      · exact .inl (UInt8.lt_trans h1 h2)
      · exact .inl h1
    · rcases h2 with h2 | ⟨rfl, h2⟩
      · exact .inl h2
      · exact .inr ⟨rfl, bl_tr h1 h2⟩
theorem bl_tot : ∀ {a b : List UInt8}, Op.bytesLess a b = false → Op.bytesLess b a = false → a = b
  | [], [], _, _ => rfl
  | [], _ :: _, h, _ => by simp [Op.bytesLess] at h
  | _ :: _, [], _, h => by simp [Op.bytesLess] at h
  | a :: l, b :: m, h1, h2 => by
    simp only [Op.bytesLess, Bool.or_eq_false_iff, decide_eq_false_iff_not, Bool.and_eq_false_imp, beq_iff_eq] at h1 h2
    have e : a = b := by
      have g1 := h1.1
      have g2 := h2.1
      rw [UInt8.lt_iff_toNat_lt] at g1 g2
      exact UInt8.toNat_inj.1 (by omega)
    subst e
    rw [bl_tot (h1.2 rfl) (h2.2 rfl)]
theorem txt_inj {a b : ByteArray} (h : a.toList = b.toList) : a = b := by
  rw [ByteArray.toList_eq, ByteArray.toList_eq] at h
  obtain ⟨⟨a⟩⟩ := a
  obtain ⟨⟨b⟩⟩ := b
  rw [show a = b from h]
theorem txt_ne {a b : ByteArray} (h : a ≠ b) : (a.toList == b.toList) = false := by rw [beq_eq_false_iff_ne]; exact fun e => h (txt_inj e)
theorem txt_eq {a b : ByteArray} (h : a = b) : (a.toList == b.toList) = true := by rw [h]; simp
theorem toS : TO ltS where
  irr _ := bl_irr _
  tr h1 h2 := bl_tr h1 h2
  tot h1 h2 := txt_inj (bl_tot h1 h2)

theorem ret_int {k : IntKind} {a b : Int} (h : a = b) : Ending.returned (.int k a) = .returned (.int k b) := by rw [h]
theorem ret_bool {a b : Bool} (h : a = b) : Ending.returned (.bool a) = .returned (.bool b) := by rw [h]
theorem zero0 (w : World) : (zeroValue 63).run Try.prog w = .ok (.agg #[]) w := by kernel_rfl
theorem infI : Inf1 3 23 8 (.int .i64 0) := ⟨by kernel_rfl, Try.underlying23, rfl, by decide⟩
theorem infS : Inf1 9 22 16 (.string ⟨#[]⟩) := ⟨by kernel_rfl, Try.underlying22, rfl, by decide⟩

theorem odd_I (x : Int) (w : World) : Calls Try.prog 30 #[.int .i64 x] w fun e w' => e = .returned (.bool false) ∧ w = w' := by
  go_enter Try.func30, Try.ntmps30
  go_wp2
  go_ret
  exact ⟨by simp, rfl⟩
theorem nan_I (x : Int) (w : World) : Calls Try.prog 45 #[.int .i64 x] w fun e w' => e = .returned (.bool false) ∧ w = w' := by
  go_enter Try.func45, Try.ntmps45
  go_wp2
  go_ret
  exact ⟨by simp, rfl⟩
set_option maxHeartbeats 400000 in
theorem less_I (x y : Int) (w : World) : Calls Try.prog 48 #[.int .i64 x, .int .i64 y] w fun e w' => e = .returned (.bool (ltI x y)) ∧ w = w' := by
  go_enter Try.func48, Try.ntmps48
  go_wp2_with (go_at_call 45; refine (nan_I _ _).mono ?_; rintro e w' ⟨rfl, rfl⟩)
  all_goals go_ret
  all_goals exact ⟨by simp [ltI, *], rfl⟩
theorem lessq_I (x y : Int) (w : World) : Calls Try.prog 48 #[.int .i64 x, .int .i64 y] w fun e w' => e = .returned (.bool (ltI x y)) ∧ w' = w := (less_I x y w).mono fun _ _ h => ⟨h.1, h.2.symm⟩
set_option maxHeartbeats 400000 in
theorem comp_I (x y : Int) (w : World) : Calls Try.prog 32 #[.int .i64 x, .int .i64 y] w fun e w' => e = .returned (.int .i64 (cmp3 ltI x y)) ∧ w = w' := by
  go_enter Try.func32, Try.ntmps32
  go_wp2_with (go_at_call 45; refine (nan_I _ _).mono ?_; rintro e w' ⟨rfl, rfl⟩)
  all_goals go_ret
  all_goals (refine ⟨ret_int ?_, rfl⟩; unfold cmp3 ltI; (repeat' split) <;> simp at * <;> omega)
theorem odd_S (x : ByteArray) (w : World) : Calls Try.prog 36 #[.string x] w fun e w' => e = .returned (.bool false) ∧ w = w' := by
  go_enter Try.func36, Try.ntmps36
  go_wp2
  go_ret
  exact ⟨by simp, rfl⟩
theorem nan_S (x : ByteArray) (w : World) : Calls Try.prog 47 #[.string x] w fun e w' => e = .returned (.bool false) ∧ w = w' := by
  go_enter Try.func47, Try.ntmps47
  go_wp2
  go_ret
  exact ⟨by simp, rfl⟩
set_option maxHeartbeats 400000 in
theorem less_S (x y : ByteArray) (w : World) : Calls Try.prog 71 #[.string x, .string y] w fun e w' => e = .returned (.bool (ltS x y)) ∧ w = w' := by
  go_enter Try.func71, Try.ntmps71
  go_wp2_with (go_at_call 47; refine (nan_S _ _).mono ?_; rintro e w' ⟨rfl, rfl⟩)
  all_goals go_ret
  all_goals exact ⟨by simp [ltS, *], rfl⟩
theorem lessq_S (x y : ByteArray) (w : World) : Calls Try.prog 71 #[.string x, .string y] w fun e w' => e = .returned (.bool (ltS x y)) ∧ w' = w := (less_S x y w).mono fun _ _ h => ⟨h.1, h.2.symm⟩
set_option maxHeartbeats 400000 in
theorem comp_S (x y : ByteArray) (w : World) : Calls Try.prog 35 #[.string x, .string y] w fun e w' => e = .returned (.int .i64 (cmp3 ltS x y)) ∧ w = w' := by
  go_enter Try.func35, Try.ntmps35
  go_wp2_with (go_at_call 47; refine (nan_S _ _).mono ?_; rintro e w' ⟨rfl, rfl⟩)
  all_goals go_ret
  · rename_i h
    exact ⟨ret_int (by unfold cmp3 ltS; rw [h]; rfl), rfl⟩
  · rename_i h1 _ _ h2
    refine ⟨ret_int ?_, rfl⟩
    have h3 : Op.bytesLess y.toList x.toList = true := by
      cases h : Op.bytesLess y.toList x.toList with
      | true => rfl
      | false =>
        rw [bl_tot h1 h] at h2
        simp at h2
    unfold cmp3 ltS
    rw [h1, h3]
    rfl
  · rename_i h1 h2
    refine ⟨ret_int ?_, rfl⟩
    have h3 : x = y := by
      simp at h2
      exact txt_inj h2
    subst h3
    unfold cmp3 ltS
    rw [h1]
    rfl
end Go.Proofs.Ytejjmbfbjagifaa.S
