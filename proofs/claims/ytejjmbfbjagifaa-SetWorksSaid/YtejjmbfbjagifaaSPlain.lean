/- Sets, what is left to do, heaps, told by plain lists. -/
import Derived.Test.YtejjmbfbjagifaaRows
namespace Go.Proofs.Ytejjmbfbjagifaa.S

/-- lt parts whatever two that are not one -/
structure TO {α : Type} (lt : α → α → Bool) : Prop where
  irr : ∀ x, lt x x = false
  tr : ∀ {x y z}, lt x y = true → lt y z = true → lt x z = true
  tot : ∀ {x y}, lt x y = false → lt y x = false → x = y

section
variable {α : Type} {lt : α → α → Bool} (T : TO lt)
include T
theorem TO.asym {x y : α} (h : lt x y = true) : lt y x = false := by
  cases h' : lt y x with
  | false => rfl
  | true =>
    have := T.tr h h'
    rw [T.irr] at this
    cases this
/-- not less, one behind the other -/
theorem TO.nt {x y z : α} (h1 : lt y x = false) (h2 : lt z y = false) : lt z x = false := by
  cases h : lt z x with
  | false => rfl
  | true =>
    cases h3 : lt x y with
    | true =>
      have := T.tr h h3
      rw [h2] at this
      cases this
    | false =>
      have := T.tot h1 h3
      subst this
      rw [h2] at h
      cases h
theorem TO.lt_nt {x y z : α} (h1 : lt x y = true) (h2 : lt z y = false) : lt z x = false := T.nt (T.asym h1) h2
theorem TO.ne {x y : α} (h : lt x y = true) : x ≠ y := by
  rintro rfl
  rw [T.irr] at h
  cases h
end

/-- rising, each once -/
abbrev Srt {α : Type} (lt : α → α → Bool) (l : List α) : Prop := l.Pairwise (fun x y => lt x y = true)

theorem srt_eq {α : Type} {lt : α → α → Bool} (T : TO lt) : ∀ {l m : List α}, Srt lt l → Srt lt m → (∀ x, x ∈ l ↔ x ∈ m) → l = m
  | [], [], _, _, _ => rfl
  | [], y :: m, _, _, h => by have := (h y).2 (by simp); simp at this
  | x :: l, [], _, _, h => by have := (h x).1 (by simp); simp at this
  | x :: l, y :: m, hl, hm, h => by
    obtain ⟨hx, hl⟩ := List.pairwise_cons.1 hl
    obtain ⟨hy, hm'⟩ := List.pairwise_cons.1 hm
    have e : x = y := by
      rcases List.mem_cons.1 ((h x).1 (by simp)) with e | hxm
      · exact e
      · rcases List.mem_cons.1 ((h y).2 (by simp)) with e | hyl
        · exact e.symm
        · have h1 := T.asym (hx y hyl)
          rw [hy x hxm] at h1
          cases h1
    subst e
    congr 1
    refine srt_eq T hl hm' fun z => ⟨fun hz => ?_, fun hz => ?_⟩
    · rcases List.mem_cons.1 ((h z).1 (by simp [hz])) with e | hz'
      · exact absurd e.symm (T.ne (hx z hz))
      · exact hz'
    · rcases List.mem_cons.1 ((h z).2 (by simp [hz])) with e | hz'
      · exact absurd e.symm (T.ne (hy z hz))
      · exact hz'
theorem Srt.nodup {α : Type} {lt : α → α → Bool} (T : TO lt) {l : List α} (h : Srt lt l) : l.Nodup := List.Pairwise.imp (fun h => T.ne h) h

/-! ### a heap -/
section
variable {α : Type} {lt : α → α → Bool}
def HpF (lt : α → α → Bool) (f : Nat → α) (n : Nat) : Prop := ∀ m, 0 < m → m < n → lt (f m) (f ((m - 1) / 2)) = false
/-- all is right but what is above k -/
def RiF (lt : α → α → Bool) (f : Nat → α) (n k : Nat) : Prop :=
  (∀ m, 0 < m → m < n → m ≠ k → lt (f m) (f ((m - 1) / 2)) = false) ∧ (0 < k → ∀ m, 0 < m → m < n → (m - 1) / 2 = k → lt (f m) (f ((k - 1) / 2)) = false)
/-- all is right but what is below k -/
def SiF (lt : α → α → Bool) (f : Nat → α) (n k : Nat) : Prop :=
  (∀ m, 0 < m → m < n → (m - 1) / 2 ≠ k → lt (f m) (f ((m - 1) / 2)) = false) ∧ (0 < k → ∀ m, 0 < m → m < n → (m - 1) / 2 = k → lt (f m) (f ((k - 1) / 2)) = false)

theorem RiF.done {f : Nat → α} {n k : Nat} (h : RiF lt f n k) (hk : 0 < k → lt (f k) (f ((k - 1) / 2)) = false) : HpF lt f n := fun m h0 hm => by
  by_cases e : m = k
  · subst e; exact hk h0
  · exact h.1 m h0 hm e
theorem RiF.step (T : TO lt) {f f' : Nat → α} {n k : Nat} (h : RiF lt f n k) (hk : 0 < k) (hkn : k < n) (hl : lt (f k) (f ((k - 1) / 2)) = true) (h1 : f' k = f ((k - 1) / 2)) (h2 : f' ((k - 1) / 2) = f k) (h3 : ∀ i, i ≠ k → i ≠ (k - 1) / 2 → f' i = f i) :
    RiF lt f' n ((k - 1) / 2) := by
  obtain ⟨ha, hb⟩ := h
  have hup : (k - 1) / 2 < k := by omega
  refine ⟨fun m m0 mn hne => ?_, fun u0 m m0 mn hm => ?_⟩
  · by_cases e : m = k
    · subst e
      rw [h1, h2]
      exact T.asym hl
    · rw [h3 m e hne]
      by_cases e1 : (m - 1) / 2 = k
      · rw [e1, h1]
        exact hb hk m m0 mn e1
      · by_cases e2 : (m - 1) / 2 = (k - 1) / 2
        · rw [e2, h2]
          have := ha m m0 mn e
          rw [e2] at this
          exact T.lt_nt hl this
        · rw [h3 _ e1 e2]
          exact ha m m0 mn e
  · have hp : f' (((k - 1) / 2 - 1) / 2) = f (((k - 1) / 2 - 1) / 2) := h3 _ (by omega) (by omega)
    rw [hp]
    have hup2 := ha ((k - 1) / 2) u0 (by omega) (by omega)
    by_cases e : m = k
    · subst e
      rw [h1]
      exact hup2
    · rw [h3 m e (by omega)]
      have := ha m m0 mn e
      rw [hm] at this
      exact T.nt hup2 this
theorem SiF.done {f : Nat → α} {n k : Nat} (h : SiF lt f n k) (hk : ∀ m, 0 < m → m < n → (m - 1) / 2 = k → lt (f m) (f k) = false) : HpF lt f n := fun m h0 hm => by
  by_cases e : (m - 1) / 2 = k
  · rw [e]; exact hk m h0 hm e
  · exact h.1 m h0 hm e
theorem SiF.step (T : TO lt) {f f' : Nat → α} {n k j : Nat} (h : SiF lt f n k) (hj0 : 0 < j) (hjn : j < n) (hj : (j - 1) / 2 = k) (hl : lt (f j) (f k) = true) (hmin : ∀ m, 0 < m → m < n → (m - 1) / 2 = k → lt (f m) (f j) = false)
    (h1 : f' k = f j) (h2 : f' j = f k) (h3 : ∀ i, i ≠ k → i ≠ j → f' i = f i) : SiF lt f' n j := by
  obtain ⟨ha, hb⟩ := h
  have hkj : k < j := by omega
  refine ⟨fun m m0 mn hne => ?_, fun u0 m m0 mn hm => ?_⟩
  · by_cases e : m = k
    · subst e
      rw [h1, h3 ((m - 1) / 2) (by omega) (by omega)]
      exact hb m0 j hj0 hjn hj
    · by_cases ec : (m - 1) / 2 = k
      · rw [ec, h1]
        by_cases e2 : m = j
        · subst e2
          rw [h2]
          exact T.asym hl
        · rw [h3 m e e2]
          exact hmin m m0 mn ec
      · have e2 : m ≠ j := fun e2 => ec (by rw [e2]; exact hj)
        rw [h3 m e e2, h3 _ ec hne]
        exact ha m m0 mn ec
  · rw [hj, h1, h3 m (by omega) (by omega)]
    have := ha m m0 mn (by omega)
    rw [hm] at this
    exact this
theorem HpF.root (T : TO lt) {f : Nat → α} {n : Nat} (h : HpF lt f n) : ∀ m, m < n → lt (f m) (f 0) = false := by
  intro m
  induction m using Nat.strongRecOn with
  | ind m ih =>
    intro hm
    by_cases e : m = 0
    · subst e; exact T.irr _
    · exact T.nt (ih ((m - 1) / 2) (by omega) (by omega)) (h m (by omega) hm)
end

/-- two places of a list change -/
def swL {α : Type} (h : List α) (i j : Nat) (x y : α) : List α := (h.set i y).set j x
theorem swL_perm {α : Type} {h : List α} {i j : Nat} {x y : α} (hi : h[i]? = some x) (hj : h[j]? = some y) : (swL h i j x y).Perm h := by
  obtain ⟨hi', rfl⟩ := List.getElem?_eq_some_iff.1 hi
  obtain ⟨hj', rfl⟩ := List.getElem?_eq_some_iff.1 hj
  exact List.set_set_perm hi' hj'
theorem swL_len {α : Type} (h : List α) (i j : Nat) (x y : α) : (swL h i j x y).length = h.length := by simp [swL]

/-- the k-th, or d -/
def at' {α : Type} (d : α) (h : List α) (k : Nat) : α := (h[k]?).getD d
theorem at'_some {α : Type} {d x : α} {h : List α} {k : Nat} (e : h[k]? = some x) : at' d h k = x := by unfold at'; rw [e]; rfl
theorem at'_sw {α : Type} {d : α} {h : List α} {i j : Nat} {x y : α} (hi : h[i]? = some x) (hj : h[j]? = some y) :
    at' d (swL h i j x y) i = y ∧ at' d (swL h i j x y) j = x ∧ ∀ k, k ≠ i → k ≠ j → at' d (swL h i j x y) k = at' d h k := by
  obtain ⟨hi', ei⟩ := List.getElem?_eq_some_iff.1 hi
  obtain ⟨hj', ej⟩ := List.getElem?_eq_some_iff.1 hj
  refine ⟨?_, ?_, fun k h1 h2 => ?_⟩
  · unfold at' swL
    by_cases e : j = i
    · subst e
      rw [hi] at hj
      cases hj
      simp [hi']
    · rw [List.getElem?_set_ne e]
      simp [hi']
  · unfold at' swL
    simp [hj']
  · unfold at' swL
    rw [List.getElem?_set_ne (Ne.symm h2), List.getElem?_set_ne (Ne.symm h1)]

/-- a heap -/
def Hp {α : Type} (lt : α → α → Bool) (d : α) (h : List α) : Prop := HpF lt (at' d h) h.length
theorem Hp.nil {α : Type} (lt : α → α → Bool) (d : α) : Hp lt d [] := fun m _ hm => by simp at hm
theorem Hp.least {α : Type} {lt : α → α → Bool} (T : TO lt) {d x : α} {h : List α} (hp : Hp lt d h) (h0 : h[0]? = some x) : ∀ y ∈ h, lt y x = false := by
  intro y hy
  obtain ⟨k, hk, rfl⟩ := List.mem_iff_getElem.1 hy
  have := HpF.root T hp k hk
  rw [at'_some h0, at'_some (List.getElem?_eq_getElem hk)] at this
  exact this
theorem Hp.snoc {α : Type} {lt : α → α → Bool} {d : α} {h : List α} (hp : Hp lt d h) (x : α) : RiF lt (at' d (h ++ [x])) (h ++ [x]).length h.length := by
  have e : ∀ k, k < h.length → at' d (h ++ [x]) k = at' d h k := fun k hk => by unfold at'; rw [List.getElem?_append_left hk]
  refine ⟨fun m m0 mn hne => ?_, fun _ m m0 mn hm => ?_⟩
  · simp at mn
    rw [e m (by omega), e _ (by omega)]
    exact hp m m0 (by omega)
  · simp at mn
    omega
/-- the last one stands first, and is no more last -/
theorem Hp.pop {α : Type} {lt : α → α → Bool} {d : α} {h g : List α} (hp : Hp lt d h) (hg : g.length + 1 = h.length) (hs : ∀ k, 0 < k → k < g.length → g[k]? = h[k]?) : SiF lt (at' d g) g.length 0 := by
  refine ⟨fun m m0 mn hne => ?_, fun h0 => absurd h0 (by omega)⟩
  have e1 : at' d g m = at' d h m := by unfold at'; rw [hs m m0 mn]
  have e2 : at' d g ((m - 1) / 2) = at' d h ((m - 1) / 2) := by unfold at'; rw [hs _ (by omega) (by omega)]
  rw [e1, e2]
  exact hp m m0 (by omega)

/-! ### sets -/
/-- l, each once, in the order in which they come -/
def onceL {α : Type} [DecidableEq α] (l : List α) : List α := l.foldl (fun a x => if x ∈ a then a else a ++ [x]) []
/-- x added -/
def addS {α : Type} [DecidableEq α] (a : List α) (x : α) : List α := if x ∈ a then a else a ++ [x]
theorem addS_nodup {α : Type} [DecidableEq α] {a : List α} (h : a.Nodup) (x : α) : (addS a x).Nodup := by
  unfold addS
  split
  · exact h
  · rename_i hx
    rw [List.nodup_append]
    exact ⟨h, by simp, fun y hy z hz e => hx (by rw [List.mem_singleton.1 hz] at e; rw [← e]; exact hy)⟩
theorem addS_mem {α : Type} [DecidableEq α] {a : List α} {x y : α} : y ∈ addS a x ↔ y ∈ a ∨ y = x := by
  unfold addS
  split
  · rename_i hx
    exact ⟨.inl, fun h => h.elim id (fun e => e ▸ hx)⟩
  · simp
theorem addS_in {α : Type} [DecidableEq α] {a : List α} {x : α} (h : x ∈ a) : addS a x = a := if_pos h
theorem addS_out {α : Type} [DecidableEq α] {a : List α} {x : α} (h : x ∉ a) : addS a x = a ++ [x] := if_neg h
theorem addS_len {α : Type} [DecidableEq α] (a : List α) (x : α) : (addS a x).length ≤ a.length + 1 := by unfold addS; split <;> simp
theorem onceL_snoc {α : Type} [DecidableEq α] (l : List α) (x : α) : onceL (l ++ [x]) = addS (onceL l) x := by unfold onceL addS; rw [List.foldl_append]; rfl
theorem onceL_nil {α : Type} [DecidableEq α] : onceL ([] : List α) = [] := rfl
theorem rev_ind {α : Type} {P : List α → Prop} (h0 : P []) (h1 : ∀ l x, P l → P (l ++ [x])) (l : List α) : P l := by
  have : ∀ n (l : List α), l.length = n → P l := by
    intro n
    induction n with
    | zero => intro l h; rw [List.length_eq_zero_iff.1 h]; exact h0
    | succ n ih =>
      intro l h
      have hne : l ≠ [] := by rintro rfl; simp at h
      rw [← List.dropLast_concat_getLast hne]
      exact h1 _ _ (ih _ (by simp [h]))
  exact this _ l rfl
theorem onceL_nodup {α : Type} [DecidableEq α] (l : List α) : (onceL l).Nodup := rev_ind (P := fun l => (onceL l).Nodup) (by simp [onceL_nil]) (fun l x h => by rw [onceL_snoc]; exact addS_nodup h x) l
theorem onceL_mem {α : Type} [DecidableEq α] (l : List α) : ∀ y, y ∈ onceL l ↔ y ∈ l := rev_ind (P := fun l => ∀ y, y ∈ onceL l ↔ y ∈ l) (by simp [onceL_nil]) (fun l x h y => by rw [onceL_snoc, addS_mem, h y]; simp) l
theorem onceL_len {α : Type} [DecidableEq α] (l : List α) : (onceL l).length ≤ l.length := rev_ind (P := fun l => (onceL l).length ≤ l.length) (by simp [onceL_nil]) (fun l x h => by
  rw [onceL_snoc]; have := addS_len (onceL l) x; simp; omega) l
theorem once_take {α : Type} [DecidableEq α] {l : List α} {i : Nat} (h : i < l.length) : onceL (l.take (i + 1)) = addS (onceL (l.take i)) l[i] := by
  rw [List.take_succ_eq_append_getElem h, onceL_snoc]
/-- is x in? -/
def hasB {α : Type} [DecidableEq α] (a : List α) (x : α) : Bool := decide (x ∈ a)
theorem hasB_iff {α : Type} [DecidableEq α] {a : List α} {x : α} : hasB a x = true ↔ x ∈ a := decide_eq_true_iff
theorem hasB_in {α : Type} [DecidableEq α] {a : List α} {x : α} (h : x ∈ a) : hasB a x = true := decide_eq_true h
theorem hasB_out {α : Type} [DecidableEq α] {a : List α} {x : α} (h : x ∉ a) : hasB a x = false := decide_eq_false h
theorem hasB_eq {α : Type} [DecidableEq α] {a b : List α} {x : α} (h : x ∈ a ↔ x ∈ b) : hasB a x = hasB b x := by unfold hasB; rw [decide_eq_decide]; exact h
/-- what is to be done behind Put -/
def putN {α : Type} [DecidableEq α] (E N : List α) (x : α) : List α := if hasB E x = true then N else addS N x
theorem putN_in {α : Type} [DecidableEq α] {E N : List α} {x : α} (h : x ∈ E) : putN E N x = N := if_pos (hasB_in h)
theorem putN_out {α : Type} [DecidableEq α] {E N : List α} {x : α} (h : x ∉ E) : putN E N x = addS N x := if_neg (by rw [hasB_out h]; simp)
theorem putN_self {α : Type} [DecidableEq α] (L : List α) (x : α) : putN L L x = addS L x := by
  by_cases h : x ∈ L
  · rw [putN_in h, addS_in h]
  · rw [putN_out h]
/-- x taken out -/
def delS {α : Type} [DecidableEq α] (a : List α) (x : α) : List α := a.filter (fun y => decide (y ≠ x))
theorem delS_nodup {α : Type} [DecidableEq α] {a : List α} (h : a.Nodup) (x : α) : (delS a x).Nodup := List.Pairwise.filter _ h
theorem delS_mem {α : Type} [DecidableEq α] {a : List α} {x y : α} : y ∈ delS a x ↔ y ∈ a ∧ y ≠ x := by unfold delS; simp
/-- without the first -/
theorem nodup_len_eq {α : Type} [DecidableEq α] : ∀ {l m : List α}, l.Nodup → m.Nodup → (∀ x, x ∈ l ↔ x ∈ m) → l.length = m.length := by
  intro l m hl hm h
  exact Nat.le_antisymm (hl.length_le_of_subset (fun x hx => (h x).1 hx)) (hm.length_le_of_subset (fun x hx => (h x).2 hx))

/-- -1, 0, 1: as cmp.Compare -/
def cmp3 {α : Type} (lt : α → α → Bool) (x y : α) : Int := if lt x y = true then -1 else if lt y x = true then 1 else 0
theorem cmp3_lt {α : Type} (lt : α → α → Bool) (x y : α) : decide (cmp3 lt x y < 0) = lt x y := by
  unfold cmp3
  cases h : lt x y
  · cases h2 : lt y x <;> simp
  · simp
end Go.Proofs.Ytejjmbfbjagifaa.S
