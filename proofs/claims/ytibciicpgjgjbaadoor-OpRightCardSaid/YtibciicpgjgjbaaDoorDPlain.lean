/- Types as texts, plainly: what the readers of types take, and that it is the text of what they answer. -/
import Derived.Test.YtibciicpgjgjbaaDoorDTy
import Derived.Lib.IndexMore
namespace Go.Proofs.YtibciicpgjgjbaaDoor
open Go.RowKit

abbrev Ty := Int × ByteArray
def tyv (t : Ty) : Value := .agg #[.int .i64 t.1, .string t.2]
def bx (l : List UInt8) : ByteArray := ⟨l.toArray⟩
def t0 : Ty := (0, ⟨#[]⟩)

theorem data_app (a b : ByteArray) : (a ++ b).data.toList = a.data.toList ++ b.data.toList := by simp
theorem bx_data (l : List UInt8) : (bx l).data.toList = l := rfl
theorem bx_size (l : List UInt8) : (bx l).size = l.length := by rw [Lib.size_eq]; rfl

/-- what lies ahead of the first ; and behind it -/
def cutAt : List UInt8 → Option (List UInt8 × List UInt8)
  | [] => none
  | c :: r => if c = 59 then some ([], r) else (cutAt r).map fun p => (c :: p.1, p.2)

theorem cutAt_some : ∀ {r a b : List UInt8}, cutAt r = some (a, b) → r = a ++ 59 :: b ∧ (59 : UInt8) ∉ a
  | [], _, _, h => by simp [cutAt] at h
  | c :: r, a, b, h => by
    unfold cutAt at h
    by_cases hc : c = 59
    · rw [if_pos hc] at h
      simp only [Option.some.injEq, Prod.mk.injEq] at h
      obtain ⟨rfl, rfl⟩ := h
      subst hc
      exact ⟨rfl, by simp⟩
    · rw [if_neg hc] at h
      obtain ⟨⟨a', b'⟩, h1, h2⟩ := Option.map_eq_some_iff.1 h
      simp only [Prod.mk.injEq] at h2
      obtain ⟨rfl, rfl⟩ := h2
      obtain ⟨rfl, h3⟩ := cutAt_some h1
      exact ⟨rfl, by simp only [List.mem_cons, not_or]; exact ⟨fun e => hc e.symm, h3⟩⟩

theorem cutAt_of : ∀ {a b : List UInt8}, (59 : UInt8) ∉ a → cutAt (a ++ 59 :: b) = some (a, b)
  | [], b, _ => by simp [cutAt]
  | c :: a, b, h => by
    simp only [List.mem_cons, not_or] at h
    show cutAt (c :: (a ++ 59 :: b)) = _
    unfold cutAt
    rw [if_neg (fun e => h.1 e.symm), cutAt_of h.2]
    rfl

theorem index_cut : ∀ (r : List UInt8), (cutAt r = none ∧ Lib.index r [59] = -1) ∨ ∃ a b, cutAt r = some (a, b) ∧ Lib.index r [59] = (a.length : Int)
  | [] => .inl ⟨rfl, rfl⟩
  | c :: r => by
    by_cases hc : c = 59
    · subst hc
      exact .inr ⟨[], r, by simp [cutAt], by simp [Lib.index]⟩
    · have hp : List.isPrefixOf [59] (c :: r) = false := by
        simp only [List.isPrefixOf, Bool.and_true, beq_eq_false_iff_ne, ne_eq]
        exact fun e => hc e.symm
      rcases index_cut r with ⟨h1, h2⟩ | ⟨a, b, h1, h2⟩
      · refine .inl ⟨by unfold cutAt; rw [if_neg hc, h1]; rfl, ?_⟩
        unfold Lib.index; rw [hp, h2]; rfl
      · refine .inr ⟨c :: a, b, by unfold cutAt; rw [if_neg hc, h1]; rfl, ?_⟩
        have hn : ((a.length : Int) == -1) = false := by rw [beq_eq_false_iff_ne]; omega
        unfold Lib.index; rw [hp, h2, hn]; simp

theorem cut_eq (r : List UInt8) : Lib.cut r [59] = match cutAt r with | some (a, b) => (a, b, true) | none => (r, [], false) := by
  unfold Lib.cut
  rcases index_cut r with ⟨h1, h2⟩ | ⟨a, b, h1, h2⟩
  · rw [h1, h2]; rfl
  · rw [h1, h2, if_pos (by omega)]
    obtain ⟨rfl, _⟩ := cutAt_some h1
    simp

theorem name_no59 {a : List UInt8} (h : nameL a = true) : (59 : UInt8) ∉ a := by
  intro hm
  unfold nameL at h
  simp only [Bool.and_eq_true] at h
  have := List.all_eq_true.1 h.2 _ hm
  revert this
  decide

/-- a class's name up to its ; -/
def refR (r : List UInt8) : Ty × List UInt8 × Bool :=
  match cutAt r with
  | some (a, b) => if nameL a then ((4, bx a), b, true) else (t0, [], false)
  | none => (t0, [], false)

theorem refR_hit {r a b : List UInt8} (h : r = a ++ 59 :: b) (hn : nameL a = true) : refR r = ((4, bx a), b, true) := by
  unfold refR; rw [h, cutAt_of (name_no59 hn)]; simp [hn]
theorem refR_miss {r : List UInt8} (h : ∀ j, j < r.length → r[j]? = some 59 → nameL (r.take j) = false) : refR r = (t0, [], false) := by
  unfold refR
  cases hc : cutAt r with
  | none => rfl
  | some p =>
    obtain ⟨a, b⟩ := p
    obtain ⟨rfl, _⟩ := cutAt_some hc
    have := h a.length (by simp) (by simp)
    rw [List.take_left' rfl] at this
    simp [this]

/-- the type that a text begins with -/
def firstR : List UInt8 → Ty × List UInt8 × Bool
  | [] => (t0, [], false)
  | c :: r =>
    if c = 73 then ((1, bx []), r, true) else if c = 83 then ((2, bx []), r, true) else if c = 65 then ((3, bx []), r, true)
    else if c = 86 then ((5, bx []), r, true) else if c = 76 then refR r else (t0, [], false)

theorem firstR_cons (c : UInt8) (r : List UInt8) : firstR (c :: r) = if c = 73 then ((1, bx []), r, true) else if c = 83 then ((2, bx []), r, true) else if c = 65 then ((3, bx []), r, true)
    else if c = 86 then ((5, bx []), r, true) else if c = 76 then refR r else (t0, [], false) := rfl

def typeL (t : Ty) : List UInt8 := (typeT t.1 t.2).data.toList

theorem typeL_ref (a : List UInt8) : typeL (4, bx a) = 76 :: (a ++ [59]) := by
  show (if (4 : Int) = 1 then (⟨#[73]⟩ : ByteArray) else if (4 : Int) = 2 then ⟨#[83]⟩ else if (4 : Int) = 3 then ⟨#[65]⟩ else if (4 : Int) = 5 then ⟨#[86]⟩ else if (4 : Int) = 4 then (⟨#[76]⟩ ++ bx a) ++ ⟨#[59]⟩ else ⟨#[]⟩).data.toList = _
  rw [if_neg (by decide), if_neg (by decide), if_neg (by decide), if_neg (by decide), if_pos rfl]
  rw [data_app, data_app, bx_data]; rfl

theorem refR_text {r rest : List UInt8} {t : Ty} (h : refR r = (t, rest, true)) : typeL t ++ rest = 76 :: r ∧ rightB t.1 t.2 = true := by
  unfold refR at h
  cases hc : cutAt r with
  | none => rw [hc] at h; simp at h
  | some p =>
    obtain ⟨a, b⟩ := p
    rw [hc] at h
    by_cases hn : nameL a = true
    · simp only [hn, if_true, Prod.mk.injEq, and_true] at h
      obtain ⟨rfl, rfl⟩ := h
      obtain ⟨rfl, _⟩ := cutAt_some hc
      refine ⟨by rw [typeL_ref]; simp, ?_⟩
      show (if (4 : Int) = 4 then nameB (bx a) else _) = true
      rw [if_pos rfl]; exact hn
    · simp [hn] at h

theorem firstR_text {s rest : List UInt8} {t : Ty} (h : firstR s = (t, rest, true)) : typeL t ++ rest = s ∧ rightB t.1 t.2 = true := by
  cases s with
  | nil => simp [firstR] at h
  | cons c r =>
    rw [firstR_cons] at h
    by_cases h1 : c = 73
    · rw [if_pos h1] at h; simp only [Prod.mk.injEq, and_true] at h; obtain ⟨rfl, rfl⟩ := h; subst h1; exact ⟨rfl, rfl⟩
    rw [if_neg h1] at h
    by_cases h2 : c = 83
    · rw [if_pos h2] at h; simp only [Prod.mk.injEq, and_true] at h; obtain ⟨rfl, rfl⟩ := h; subst h2; exact ⟨rfl, rfl⟩
    rw [if_neg h2] at h
    by_cases h3 : c = 65
    · rw [if_pos h3] at h; simp only [Prod.mk.injEq, and_true] at h; obtain ⟨rfl, rfl⟩ := h; subst h3; exact ⟨rfl, rfl⟩
    rw [if_neg h3] at h
    by_cases h4 : c = 86
    · rw [if_pos h4] at h; simp only [Prod.mk.injEq, and_true] at h; obtain ⟨rfl, rfl⟩ := h; subst h4; exact ⟨rfl, rfl⟩
    rw [if_neg h4] at h
    by_cases h5 : c = 76
    · rw [if_pos h5] at h; subst h5; exact refR_text h
    · rw [if_neg h5] at h; simp at h

theorem refR_false {r : List UInt8} {x : Ty × List UInt8 × Bool} (h : refR r = x) (hx : x.2.2 = false) : x = (t0, [], false) := by
  subst h
  unfold refR at hx ⊢
  cases hc : cutAt r with
  | none => rfl
  | some p =>
    obtain ⟨a, b⟩ := p
    rw [hc] at hx
    by_cases hn : nameL a = true
    · simp [hn] at hx
    · simp [hn]

theorem firstR_false {s : List UInt8} {x : Ty × List UInt8 × Bool} (h : firstR s = x) (hx : x.2.2 = false) : x = (t0, [], false) := by
  cases s with
  | nil => exact h.symm
  | cons c r =>
    rw [firstR_cons] at h
    by_cases h1 : c = 73
    · rw [if_pos h1] at h; subst h; simp at hx
    rw [if_neg h1] at h
    by_cases h2 : c = 83
    · rw [if_pos h2] at h; subst h; simp at hx
    rw [if_neg h2] at h
    by_cases h3 : c = 65
    · rw [if_pos h3] at h; subst h; simp at hx
    rw [if_neg h3] at h
    by_cases h4 : c = 86
    · rw [if_pos h4] at h; subst h; simp at hx
    rw [if_neg h4] at h
    by_cases h5 : c = 76
    · rw [if_pos h5] at h; exact refR_false h hx
    · rw [if_neg h5] at h; exact h.symm

theorem typeL_pos {t : Ty} (h : rightB t.1 t.2 = true) : 0 < (typeL t).length := by
  unfold typeL typeT
  unfold rightB at h
  by_cases h1 : t.1 = 1
  · rw [if_pos h1]; decide
  rw [if_neg h1]
  by_cases h2 : t.1 = 2
  · rw [if_pos h2]; decide
  rw [if_neg h2]
  by_cases h3 : t.1 = 3
  · rw [if_pos h3]; decide
  rw [if_neg h3]
  by_cases h5 : t.1 = 5
  · rw [if_pos h5]; decide
  rw [if_neg h5]
  by_cases h4 : t.1 = 4
  · rw [if_pos h4, data_app]; simp
  · rw [if_neg h4] at h
    simp only [Bool.and_eq_true, decide_eq_true_eq] at h
    omega

theorem firstR_len {s rest : List UInt8} {t : Ty} (h : firstR s = (t, rest, true)) : rest.length < s.length := by
  obtain ⟨rfl, hr⟩ := firstR_text h
  have := typeL_pos hr
  simp; omega

theorem typeL_size {t : Ty} (h : rightB t.1 t.2 = true) : t.2.size ≤ (typeL t).length := by
  unfold rightB at h
  by_cases h4 : t.1 = 4
  · unfold typeL typeT
    rw [if_neg (by omega), if_neg (by omega), if_neg (by omega), if_neg (by omega), if_pos h4, data_app, data_app, Lib.size_eq]
    simp; omega
  · rw [if_neg h4] at h
    simp only [Bool.and_eq_true, decide_eq_true_eq] at h
    omega

/-- the type whose text is s -/
def oneR (s : List UInt8) : Ty × Bool := if (firstR s).2.2 && (firstR s).2.1.isEmpty then ((firstR s).1, true) else (t0, false)

/-- the params up to their ) -/
def listR : Nat → List Ty → List UInt8 → List Ty × List UInt8 × Bool
  | 0, _, _ => ([], [], false)
  | n + 1, ps, s =>
    if Lib.hasPrefix s [41] then (ps, s.drop 1, true)
    else if (firstR s).2.2 = false ∨ (firstR s).1.1 = 5 ∨ ps.length = 8 then ([], [], false)
    else listR n (ps ++ [(firstR s).1]) (firstR s).2.1

theorem listR_fuel : ∀ (n m : Nat) (ps : List Ty) (s : List UInt8), s.length < n → s.length < m → listR n ps s = listR m ps s
  | 0, _, _, _, h, _ => absurd h (Nat.not_lt_zero _)
  | _ + 1, 0, _, _, _, h => absurd h (Nat.not_lt_zero _)
  | n + 1, m + 1, ps, s, h1, h2 => by
    unfold listR
    by_cases hp : Lib.hasPrefix s [41] = true
    · rw [if_pos hp, if_pos hp]
    · rw [if_neg hp, if_neg hp]
      by_cases hc : (firstR s).2.2 = false ∨ (firstR s).1.1 = 5 ∨ ps.length = 8
      · rw [if_pos hc, if_pos hc]
      · rw [if_neg hc, if_neg hc]
        have : (firstR s).2.2 = true := by
          cases hh : (firstR s).2.2
          · exact absurd (.inl hh) hc
          · rfl
        have hl := firstR_len (s := s) (t := (firstR s).1) (rest := (firstR s).2.1) (by rw [← this])
        exact listR_fuel n m _ _ (by omega) (by omega)

def parseR (s : List UInt8) : List Ty × Ty × Bool :=
  if Lib.hasPrefix s [40] then
    (if (listR s.length [] (s.drop 1)).2.2 && (oneR (listR s.length [] (s.drop 1)).2.1).2 then ((listR s.length [] (s.drop 1)).1, (oneR (listR s.length [] (s.drop 1)).2.1).1, true) else ([], t0, false))
  else ([], t0, false)

def ofL (ps : List Ty) (r : Ty) : List UInt8 := 40 :: (ps.flatMap typeL ++ 41 :: typeL r)

theorem pre41 {s : List UInt8} (c : UInt8) (h : Lib.hasPrefix s [c] = true) : s = c :: s.drop 1 := by
  cases s with
  | nil => simp [Lib.hasPrefix] at h
  | cons d r =>
    simp only [Lib.hasPrefix, List.isPrefixOf, Bool.and_true, beq_iff_eq] at h
    subst h; rfl

theorem oneR_text {s : List UInt8} {t : Ty} (h : oneR s = (t, true)) : typeL t = s ∧ rightB t.1 t.2 = true := by
  unfold oneR at h
  by_cases hc : ((firstR s).2.2 && (firstR s).2.1.isEmpty) = true
  · rw [if_pos hc] at h
    simp only [Prod.mk.injEq, and_true] at h
    subst h
    simp only [Bool.and_eq_true, List.isEmpty_iff] at hc
    have := firstR_text (s := s) (t := (firstR s).1) (rest := []) (by rw [← hc.1, ← hc.2])
    simpa using this
  · rw [if_neg hc] at h; simp at h

theorem listR_text : ∀ (n : Nat) (ps ps' : List Ty) (s rest : List UInt8), listR n ps s = (ps', rest, true) →
    ∃ qs, ps' = ps ++ qs ∧ s = qs.flatMap typeL ++ 41 :: rest ∧ (∀ q ∈ qs, rightB q.1 q.2 = true ∧ ¬ q.1 = 5) ∧ (ps.length ≤ 8 → ps'.length ≤ 8)
  | 0, _, _, _, _, h => by simp [listR] at h
  | n + 1, ps, ps', s, rest, h => by
    unfold listR at h
    by_cases hp : Lib.hasPrefix s [41] = true
    · rw [if_pos hp] at h
      simp only [Prod.mk.injEq, and_true] at h
      obtain ⟨rfl, rfl⟩ := h
      exact ⟨[], by simp, by simpa using pre41 41 hp, by simp, id⟩
    · rw [if_neg hp] at h
      by_cases hc : (firstR s).2.2 = false ∨ (firstR s).1.1 = 5 ∨ ps.length = 8
      · rw [if_pos hc] at h; simp at h
      · rw [if_neg hc] at h
        obtain ⟨qs, h1, h2, h3, h4⟩ := listR_text n _ _ _ _ h
        have hb : (firstR s).2.2 = true := by
          cases hh : (firstR s).2.2
          · exact absurd (.inl hh) hc
          · rfl
        obtain ⟨g1, g2⟩ := firstR_text (s := s) (t := (firstR s).1) (rest := (firstR s).2.1) (by rw [← hb])
        refine ⟨(firstR s).1 :: qs, by rw [h1]; simp, by rw [List.flatMap_cons, List.append_assoc, ← h2, g1], ?_, fun hl => ?_⟩
        · intro q hq
          rcases List.mem_cons.1 hq with rfl | hq
          · exact ⟨g2, fun e => hc (.inr (.inl e))⟩
          · exact h3 q hq
        · have : ¬ ps.length = 8 := fun e => hc (.inr (.inr e))
          exact h4 (by simp; omega)

theorem parseR_text {s : List UInt8} {ps : List Ty} {r : Ty} (h : parseR s = (ps, r, true)) :
    ofL ps r = s ∧ (∀ q ∈ ps, rightB q.1 q.2 = true ∧ ¬ q.1 = 5) ∧ ps.length ≤ 8 ∧ rightB r.1 r.2 = true := by
  unfold parseR at h
  by_cases hp : Lib.hasPrefix s [40] = true
  · rw [if_pos hp] at h
    by_cases hc : ((listR s.length [] (s.drop 1)).2.2 && (oneR (listR s.length [] (s.drop 1)).2.1).2) = true
    · rw [if_pos hc] at h
      simp only [Prod.mk.injEq, and_true] at h
      obtain ⟨rfl, rfl⟩ := h
      simp only [Bool.and_eq_true] at hc
      obtain ⟨qs, h1, h2, h3, h4⟩ := listR_text s.length [] (listR s.length [] (s.drop 1)).1 (s.drop 1) (listR s.length [] (s.drop 1)).2.1 (by rw [← hc.1])
      obtain ⟨g1, g2⟩ := oneR_text (s := (listR s.length [] (s.drop 1)).2.1) (t := (oneR (listR s.length [] (s.drop 1)).2.1).1) (by rw [← hc.2])
      refine ⟨?_, ?_, h4 (by simp), g2⟩
      · unfold ofL
        rw [g1, h1, List.nil_append, ← h2]
        exact (pre41 40 hp).symm
      · rw [h1, List.nil_append]; exact h3
    · rw [if_neg hc] at h; simp at h
  · rw [if_neg hp] at h; simp at h

end Go.Proofs.YtibciicpgjgjbaaDoor
