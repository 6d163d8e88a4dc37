/- Pools of texts in memory: the program's own, and the answers'. What stays as it was. -/
import Derived.Test.YtnpbhpidciiciaaBackPlain
import Derived.Test.YtnpbhpidciiciaaShelf
import Derived.Maps.OwnSet
import Derived.StringKeys
import Derived.Maps.AppendAt
namespace Go.Proofs.Ytnpbhpidciiciaa
open Go.RowKit Go.Maps

/-- nothing but the blocks S, and what is new, has changed -/
def Kpt (S : List Nat) (w w' : World) : Prop := Below 0 w w' ∧ ∀ g, g < w.heap.size → g ∉ S → w'.heap[g]? = w.heap[g]?

theorem Kpt.size {S : List Nat} {w w' : World} (h : Kpt S w w') : w.heap.size ≤ w'.heap.size := h.1.size
theorem Kpt.refl (S : List Nat) (w : World) : Kpt S w w := ⟨Below.refl _ _, fun _ _ _ => rfl⟩
theorem Kpt.trans {S S' : List Nat} {a b c : World} (h : Kpt S a b) (k : Kpt S' b c) (hs : ∀ x ∈ S', x ∈ S ∨ a.heap.size ≤ x) : Kpt S a c :=
  ⟨h.1.trans k.1, fun g hg hn => (k.2 g (Nat.lt_of_lt_of_le hg h.size) (fun hx => by
    rcases hs g hx with h1 | h1
    · exact hn h1
    · omega)).trans (h.2 g hg hn)⟩
theorem Kpt.mono {S S' : List Nat} {a b : World} (h : Kpt S a b) (hs : ∀ x ∈ S, x < a.heap.size → x ∈ S') : Kpt S' a b :=
  ⟨h.1, fun g hg hn => h.2 g hg (fun hx => hn (hs g hx hg))⟩
theorem Kpt.of_below {S : List Nat} {w w' : World} (h : Below w.heap.size w w') : Kpt S w w' := ⟨h.mono (Nat.zero_le _), fun g hg _ => h.block g hg⟩
theorem Kpt.of_grown {S : List Nat} {w w' : World} {r : Option Nat} (h : w.grownBy w' r) (hr : ∀ g, r = some g → g ∈ S ∨ w.heap.size ≤ g) : Kpt S w w' :=
  ⟨⟨h.os, h.tape, h.output, h.size, fun k hk => absurd hk (Nat.not_lt_zero k)⟩, fun g hg hn => h.block g hg (fun e => by
    rcases hr g e.symm with h1 | h1
    · exact hn h1
    · omega)⟩
theorem Kpt.alloc (S : List Nat) (w : World) (o : Obj) : Kpt S w (w.alloc o) := .of_grown (World.grownBy_alloc w o none) (fun g h => by cases h)
theorem Kpt.drewN (S : List Nat) (w : World) (n : Nat) : Kpt S w (w.drewN n) := .of_grown (grown_drewN w n none) (fun g h => by cases h)
theorem Kpt.drew {S : List Nat} {a w : World} (h : Kpt S a w) : Kpt S a w.drew := ⟨h.1.drew, h.2⟩
theorem Kpt.set (S : List Nat) (w : World) (b j : Nat) (u : Value) (h : b ∈ S) : Kpt S w (w.setCell ⟨b, j, none⟩ u) := .of_grown (grown_set w b j u) (fun g e => by cases e; exact .inl h)
theorem Kpt.gone {S : List Nat} {w w' : World} {B rb : Nat} {bs : List UInt8} {k e : Nat} (h : Gone w w' B rb bs k e) (hr : rb ∈ S) : Kpt S w w' := .of_grown h.2 (fun g e => by cases e; exact .inl hr)
theorem Kpt.below {S : List Nat} {w w' : World} {B : Nat} (h : Kpt S w w') (hS : ∀ x ∈ S, B ≤ x) (hB : B ≤ w.heap.size) : Below B w w' :=
  ⟨h.1.os, h.1.tape, h.1.output, h.1.size, fun k hk => h.2 k (Nat.lt_of_lt_of_le hk hB) (fun hx => by have := hS k hx; omega)⟩

theorem row_kpt {w w' : World} {B n sz : Nat} {e : TypeId} {v : Value} {xs : List Value} {S : List Nat} (h : w.ownsRow B e sz v n xs) (hk : Kpt S w w') (hS : ∀ g, v.ownBlock = some g → g ∉ S) : w'.ownsRow B e sz v n xs := by
  refine ⟨h.1, ?_⟩
  rcases h.2 with hn | ⟨g, cap, cur, rfl, hb, hgg, rest⟩
  · exact .inl hn
  · refine .inr ⟨g, cap, cur, rfl, hb, ?_, rest⟩
    rw [hk.2 g (Array.getElem?_eq_some_iff.1 hgg).1 (hS g rfl)]
    exact hgg

theorem Own.kpt {w w' : World} {B : Nat} {v : Value} {l : List UInt8} {S : List Nat} (h : Own w B v l) (hk : Kpt S w w') (hS : ∀ g, v.ownBlock = some g → g ∉ S) : Own w' B v l := row_kpt h hk hS

theorem Rdr.kpt {w w' : World} {B rb : Nat} {bs : List UInt8} {k e : Nat} {S : List Nat} (h : Rdr w B rb bs k e) (hk : Kpt S w w') (hS : ∀ g, B ≤ g → g ≤ rb → g ∉ S) : Rdr w' B rb bs k e := by
  obtain ⟨h1, h2, sl, hx, ho, hn⟩ := h
  have hlt := (Array.getElem?_eq_some_iff.1 hx).1
  refine ⟨h1, h2, sl, ?_, ho.kpt hk (fun g hg => hS g (ho.lt g hg).1 (Nat.le_of_lt (hn g hg))), hn⟩
  rw [hk.2 rb hlt (hS rb h1 (Nat.le_refl _))]
  exact hx

theorem Rd.kpt {w w' : World} {v : Value} {l : List UInt8} {S : List Nat} (h : Rd w v l) (hk : Kpt S w w') (hv : l = [] ∨ ∀ g, v.ownBlock = some g → g < w.heap.size ∧ g ∉ S) : Rd w' v l := by
  obtain ⟨p, cap, rfl, h1, h2, h3⟩ := h
  refine ⟨p, cap, rfl, h1, h2, fun a ha i x hx => ?_⟩
  rcases hv with rfl | hv
  · simp at hx
  · have := hv a.block (by rw [ha]; rfl)
    have hb := hk.2 a.block this.1 this.2
    rw [World.cell?_of_block (w := w) (a := a.add i) (by rw [add_block]; exact hb)]
    exact h3 a ha i x hx

theorem Try.infoS : (Try.prog.info? 9).map (fun i => (i.zero, i.size, i.bytes)) = some (some (.string ⟨#[]⟩), 1, 16) := by kernel_rfl

/-- the slice value v is the call's own, from block B on, and reads as the texts L -/
def OwnS (w : World) (B : Nat) (v : Value) (L : List ByteArray) : Prop := w.ownsRow B 9 1 v L.length (L.map Value.string)

theorem strs_one (L : List ByteArray) : ∀ u ∈ L.map Value.string, u.oneCell' = true := by
  intro u hu
  obtain ⟨_, _, rfl⟩ := List.mem_map.1 hu
  rfl

theorem OwnS.nil (w : World) (B : Nat) : OwnS w B (.slice none 0 0) [] := World.ownsRow_nil _ _ _ _
theorem OwnS.alloc {w : World} {B : Nat} {v : Value} {L : List ByteArray} (h : OwnS w B v L) (o : Obj) : OwnS (w.alloc o) B v L := World.ownsRow.alloc h o
theorem OwnS.lt {w : World} {B : Nat} {v : Value} {L : List ByteArray} (h : OwnS w B v L) : ∀ k, v.ownBlock = some k → B ≤ k ∧ k < w.heap.size := World.ownsRow.lt h
theorem OwnS.kpt {w w' : World} {B : Nat} {v : Value} {L : List ByteArray} {S : List Nat} (h : OwnS w B v L) (hk : Kpt S w w') (hS : ∀ g, v.ownBlock = some g → g ∉ S) : OwnS w' B v L := row_kpt h hk hS

theorem OwnS.form {w : World} {B : Nat} {v : Value} {L : List ByteArray} (h : OwnS w B v L) : ∃ a c, v = .slice a L.length c ∧ L.length ≤ c ∧ c ≤ maxLen ∧ (0 < L.length → ∃ g, a = some ⟨g, 0, none⟩ ∧ ∀ i (hi : i < L.length), w.cell? ⟨g, i, none⟩ = some (.string L[i])) := by
  have hh := h
  rcases h.2 with ⟨rfl, hn⟩ | ⟨g, cap, cur, rfl, _, _, h1, h2, _⟩
  · exact ⟨none, 0, by rw [hn], by omega, by unfold maxLen; omega, fun h0 => by omega⟩
  · refine ⟨_, cap, rfl, h1, h2, fun _ => ⟨g, rfl, fun i hi => ?_⟩⟩
    have := World.ownsRow.cells hh (g := g) rfl i (.string L[i]) (by simp [hi])
    rw [add_add _ i rfl, Nat.zero_add] at this
    exact this

theorem OwnS.slice {w : World} {B : Nat} {v : Value} {L : List ByteArray} (h : OwnS w B v L) : ∃ a n c, v = .slice a n c := by
  obtain ⟨a, c, h, _⟩ := h.form
  exact ⟨a, _, c, h⟩

/-- a slice of one text, just made -/
theorem wp_appS {w : World} {ops : Array Oper} {rest : List Oper} {o : Oper} {a : Act} {Q : Exit → Act → World → Prop} (hgd : o.guard = none) (s x : Operand)
    (ho : o.op = .call { callee := .builtin .append, args := #[s, x], argTypes := #[22, 22] })
    (B : Nat) (v : Value) (L : List ByteArray) (hs : a.eval s = v) (hown : OwnS w B v L) (g c : Nat) (t : ByteArray) (hx : a.eval x = .slice (some ⟨g, 0, none⟩) 1 c) (hc : w.cell? ⟨g, 0, none⟩ = some (.string t))
    (hb : L.length ≤ 1000000) (hbase : B ≤ w.heap.size)
    (h : ∀ v' w', OwnS w' B v' (L ++ [t]) → w.grownBy w' v.ownBlock → (v'.ownBlock = v.ownBlock ∨ v'.ownBlock = some w.heap.size) → wpList Try.prog ops Q rest (a.put o.dst v') w') :
    wpList Try.prog ops Q (o :: rest) a w := by
  obtain ⟨i0, hi, hz0, hz1, hz2⟩ := info_parts Try.infoS
  refine wpList_append_own_at w hgd s x 22 ho B 9 i0 (.string ⟨#[]⟩) 1 16 Try.underlying22 hi hz0 hz1 hz2 rfl (by decide) v L.length (L.map Value.string) hs hown ⟨g, 0, none⟩ 1 c ([t].map Value.string) hx (by simp) ?_ (strs_one [t])
    (by unfold maxLen; omega) (by omega) hbase ?_
  · intro j u hj
    match j, hj with
    | 0, hj => simp at hj; subst hj; simpa [Addr.add] using hc
  · intro v' w' h1 h2 _ h4
    refine h v' w' ?_ h2 h4
    unfold OwnS
    rw [List.length_append, List.map_append]
    exact h1

theorem step_appS {w : World} {ops : Array Oper} {o : Oper} {a : Act} {K : Act → World → Prop} {Q : Exit → Act → World → Prop} {E : Prop} (hw : Region.wanted o (yielded ops a.tmps) = true) (s x : Operand)
    (ho : o.op = .call { callee := .builtin .append, args := #[s, x], argTypes := #[22, 22] })
    (B : Nat) (v : Value) (L : List ByteArray) (hs : a.eval s = v) (hown : OwnS w B v L) (g c : Nat) (t : ByteArray) (hx : a.eval x = .slice (some ⟨g, 0, none⟩) 1 c) (hc : w.cell? ⟨g, 0, none⟩ = some (.string t))
    (hb : L.length ≤ 1000000) (hbase : B ≤ w.heap.size)
    (h : ∀ v' w', OwnS w' B v' (L ++ [t]) → w.grownBy w' v.ownBlock → (v'.ownBlock = v.ownBlock ∨ v'.ownBlock = some w.heap.size) → K (a.put o.dst v') w') :
    if Region.wanted o (yielded ops a.tmps) = true then Oper.wp Try.prog o a w K Q else E := by
  rw [if_pos hw]
  obtain ⟨i0, hi, hz0, hz1, hz2⟩ := info_parts Try.infoS
  obtain ⟨v', w', hrun, g1, g2, _, g4⟩ := run_append_own_at (P := Try.prog) w B 22 o.type 9 i0 (.string ⟨#[]⟩) 1 16 Try.underlying22 hi hz0 hz1 hz2 rfl (by decide) v L.length (L.map Value.string) hown ⟨g, 0, none⟩ 1 c ([t].map Value.string) (by simp) (fun j u hj => by
    match j, hj with
    | 0, hj => simp at hj; subst hj; simpa [Addr.add] using hc) (strs_one [t]) (by unfold maxLen; omega) (by omega) hbase
  unfold Oper.wp execOp
  simp only [ho, resolve, invoke, builtin, Sem.run_bind, Sem.run_pure, Result.andThen_ok, List.map_toArray, List.map_cons, List.map_nil, hs, hx, hrun]
  refine h v' w' ?_ g2 g4
  unfold OwnS
  rw [List.length_append, List.map_append]
  exact g1

/-- where s stands first in L; how many there are, if it doesn't -/
def pos (L : List ByteArray) (s : ByteArray) : Nat := L.findIdx (fun t => decide (t = s))

instance memDec (s : ByteArray) (L : List ByteArray) : Decidable (s ∈ L) := decidable_of_iff (L.any (fun t => decide (t = s)) = true) (by simp)

/-- L behind Put of s -/
def putL (L : List ByteArray) (s : ByteArray) : List ByteArray := if s ∈ L then L else L ++ [s]

theorem pos_le (L : List ByteArray) (s : ByteArray) : pos L s ≤ L.length := List.findIdx_le_length
theorem pos_lt {L : List ByteArray} {s : ByteArray} (h : s ∈ L) : pos L s < L.length := List.findIdx_lt_length_of_exists ⟨s, h, by simp⟩
theorem pos_not {L : List ByteArray} {s : ByteArray} (h : s ∉ L) : pos L s = L.length := by
  unfold pos
  rw [List.findIdx_eq_length]
  intro x hx
  simp only [decide_eq_false_iff_not]
  rintro rfl
  exact h hx
theorem pos_at {L : List ByteArray} {s : ByteArray} (h : s ∈ L) : L[pos L s]'(pos_lt h) = s := by
  have := List.findIdx_getElem (xs := L) (p := fun t => decide (t = s)) (w := pos_lt h)
  exact of_decide_eq_true this
theorem pos_app {L : List ByteArray} {s : ByteArray} (M : List ByteArray) (h : s ∈ L) : pos (L ++ M) s = pos L s := by
  have h1 := pos_lt h
  unfold pos at h1 ⊢
  rw [List.findIdx_append, if_pos h1]
theorem pos_new {L : List ByteArray} {s : ByteArray} (h : s ∉ L) : pos (L ++ [s]) s = L.length := by
  unfold pos
  rw [List.findIdx_append, if_neg (by have := pos_not h; unfold pos at this; omega)]
  simp [List.findIdx_cons]

theorem putL_len (L : List ByteArray) (s : ByteArray) : (putL L s).length ≤ L.length + 1 := by unfold putL; split <;> simp
theorem putL_mem (L : List ByteArray) (s : ByteArray) : s ∈ putL L s := by unfold putL; split <;> simp_all
theorem putL_has {L : List ByteArray} {s : ByteArray} (h : s ∈ L) : putL L s = L := if_pos h

theorem txt_inj {a b : ByteArray} (h : a.toList = b.toList) : a = b := by
  rw [Lib.toList_data, Lib.toList_data] at h
  obtain ⟨⟨a⟩⟩ := a
  obtain ⟨⟨b⟩⟩ := b
  rw [show a = b from h]

theorem txt_ne {a b : ByteArray} (h : a ≠ b) : (a.toList == b.toList) = false := by rw [beq_eq_false_iff_ne]; exact fun e => h (txt_inj e)
theorem txt_eq {a b : ByteArray} (h : a = b) : (a.toList == b.toList) = true := by rw [h]; simp

/-- what a text is as a key -/
def kS (s : ByteArray) : Lit := .string s.data.toList

theorem kS_inj {a b : ByteArray} (h : kS a = kS b) : a = b := by
  unfold kS at h
  simp only [Lit.string.injEq] at h
  obtain ⟨a⟩ := a
  obtain ⟨b⟩ := b
  simp only at h
  rw [Array.toList_inj.1 h]

theorem kS_key (s : ByteArray) : WideAt.IsKeyLit (kS s) := by unfold kS WideAt.IsKeyLit; trivial

/-- D has just the texts of L, each with where it stands first -/
def NumD (D : DataW Unit) (L : List ByteArray) : Prop :=
  ∀ s : ByteArray, Maps.has D (kS s) = decide (s ∈ L) ∧ D.atKey (kS s) (.lit (.int .i64 0)) = .lit (.int .i64 ((if s ∈ L then pos L s else 0 : Nat) : Int))

theorem NumD.nil : NumD (.map []) [] := fun _ => ⟨rfl, rfl⟩

theorem NumD.more {D : DataW Unit} {L : List ByteArray} (h : NumD D L) {s : ByteArray} (hs : s ∈ L) : NumD D (L ++ [s]) := by
  intro t
  obtain ⟨h1, h2⟩ := h t
  rw [h1, h2]
  by_cases ht : t ∈ L
  · rw [pos_app _ ht]
    simp [ht]
  · have hne : t ≠ s := fun e => ht (by rw [e]; exact hs)
    simp [ht, hne]

theorem NumD.put {D : DataW Unit} {L : List ByteArray} (h : NumD D L) (hD : IsMap D) {s : ByteArray} (hs : s ∉ L) : NumD (D.put (kS s) (.lit (.int .i64 (L.length : Int)))) (L ++ [s]) := by
  intro t
  by_cases e : t = s
  · subst e
    rw [has_put_same hD (kS_key t), atKey_put_same hD (kS_key t), pos_new hs]
    simp
  · have hne : kS t ≠ kS s := fun h => e (kS_inj h)
    obtain ⟨h1, h2⟩ := h t
    rw [has_put_other hne, atKey_put_other hne, h1, h2]
    by_cases ht : t ∈ L
    · rw [pos_app _ ht]
      simp [ht]
    · simp [ht, e]

theorem lawS : Keyed Try.prog 9 := string_keyed Try.underlying9
theorem zeroI (w : World) : (zeroValue 3).run Try.prog w = .ok (.int .i64 0) w := by kernel_rfl

/-- the map in block b has just the texts of L -/
def Mp (w : World) (b : Nat) (n : Nat) (L : List ByteArray) : Prop := ∃ D : DataW Unit, w.ownsMap Try.prog 9 (plainElem Try.prog 3) b n D ∧ NumD D L

theorem Mp.made (w : World) : Mp (w.alloc (.map #[] 0)) w.heap.size 0 [] := ⟨_, World.ownsMap_made _ _ _ _, NumD.nil⟩
theorem Mp.mono {w : World} {b n m : Nat} {L : List ByteArray} (h : Mp w b n L) (hm : n ≤ m) : Mp w b m L := by
  obtain ⟨D, h1, h2⟩ := h
  exact ⟨D, h1.mono hm, h2⟩
theorem Mp.map {w : World} {b n : Nat} {L : List ByteArray} (h : Mp w b n L) : ∃ es c, w.heap[b]? = some (.map es c) := by
  obtain ⟨D, ⟨es, c, hb, _⟩, _⟩ := h
  exact ⟨es, c, hb⟩
theorem Mp.kpt {w w' : World} {b n : Nat} {L : List ByteArray} {S : List Nat} (h : Mp w b n L) (hk : Kpt S w w') (hS : b ∉ S) : Mp w' b n L := by
  obtain ⟨D, ⟨es, c, hb, hr⟩, h2⟩ := h
  refine ⟨D, ⟨es, c, ?_, hr⟩, h2⟩
  rw [hk.2 b (Array.getElem?_eq_some_iff.1 hb).1 hS]
  exact hb

theorem wp_look {w : World} {ops : Array Oper} {rest : List Oper} {o : Oper} {a : Act} {Q : Exit → Act → World → Prop} (hg : o.guard = none) (m x : Operand) (hop : o.op = Op.lookup 56 m x true)
    (b n : Nat) (L : List ByteArray) (hm : a.eval m = .map (some b)) (h : Mp w b n L) (s : ByteArray) (hs : s.size ≤ maxLen) (hx : a.eval x = .string s) (ok : Bool) (hok : decide (s ∈ L) = ok) (p : Nat) (hp : (if s ∈ L then pos L s else 0) = p)
    (hK : wpList Try.prog ops Q rest (a.put o.dst (.tuple #[.int .i64 p, .bool ok])) w) :
    wpList Try.prog ops Q (o :: rest) a w := by
  obtain ⟨D, h1, h2⟩ := h
  refine wpList_lookup_own_ok_int w hg m x _ hop 9 3 .i64 lawS Try.underlying56 Try.underlying3 (zeroI w) b n D hm h1 _ (kS s) hx (WideMaps.keyOf_string_mk Try.underlying9 hs) ?_
  intro c hat _
  obtain ⟨e1, e2⟩ := h2 s
  rw [e2] at hat
  simp only [DataW.lit.injEq, Lit.int.injEq, true_and] at hat
  rw [e1, hok, ← hat, hp]
  exact hK

theorem wp_store {w : World} {ops : Array Oper} {rest : List Oper} {o : Oper} {a : Act} {Q : Exit → Act → World → Prop} (hg : o.guard = none) (m x v : Operand) (hop : o.op = Op.mapUpdate 56 m x v)
    (b : Nat) (L : List ByteArray) (hm : a.eval m = .map (some b)) (h : Mp w b L.length L) (s : ByteArray) (hs : s.size ≤ maxLen) (hx : a.eval x = .string s) (hv : a.eval v = .int .i64 (L.length : Int)) (hn : s ∉ L) (hl : L.length ≤ 1000000)
    (hK : ∀ w', Mp w' b (L ++ [s]).length (L ++ [s]) → w.grownBy w' (some b) → wpList Try.prog ops Q rest (a.put o.dst undef) w') :
    wpList Try.prog ops Q (o :: rest) a w := by
  obtain ⟨D, h1, h2⟩ := h
  have hwf : (Lit.int .i64 (L.length : Int)).wf = true := WalkArith.wf_i64 (by omega)
  refine wpList_mapUpdate_own w hg m x v _ hop 9 3 lawS Try.underlying56 (plainElem Try.prog 3) b L.length D hm h1 (by unfold maxLen; omega) _ _ (kS s) hx hv (WideMaps.keyOf_string_mk Try.underlying9 hs) (.lit (.int .i64 (L.length : Int))) [] (plainElem_int Try.underlying3 hwf) ?_
  intro w' hown hg
  refine hK w' ⟨_, ?_, h2.put h1.isMap hn⟩ hg
  rw [List.length_append]
  exact hown

/-- the program's Pool in block pb: its map in block mb, its texts in sl -/
def Pl (w : World) (B pb mb : Nat) (sl : Value) (L : List ByteArray) : Prop :=
  B ≤ pb ∧ B ≤ mb ∧ w.heap[pb]? = some (.cells #[sl, .map (some mb)] 58 (0, 0)) ∧ OwnS w B sl L ∧ sl.ownBlock ≠ some pb ∧ Mp w mb L.length L

/-- the blocks of a Pool -/
def fp (pb mb : Nat) (sl : Value) : List Nat := pb :: mb :: sl.ownBlock.toList

theorem mem_fp {pb mb x : Nat} {sl : Value} : x ∈ fp pb mb sl ↔ x = pb ∨ x = mb ∨ sl.ownBlock = some x := by
  unfold fp
  simp

theorem Pl.lt {w : World} {B pb mb : Nat} {sl : Value} {L : List ByteArray} (h : Pl w B pb mb sl L) : ∀ x ∈ fp pb mb sl, B ≤ x ∧ x < w.heap.size := by
  obtain ⟨h1, h2, hp, ho, _, hm⟩ := h
  obtain ⟨es, c, hb⟩ := hm.map
  intro x hx
  rcases mem_fp.1 hx with rfl | rfl | hx
  · exact ⟨h1, (Array.getElem?_eq_some_iff.1 hp).1⟩
  · exact ⟨h2, (Array.getElem?_eq_some_iff.1 hb).1⟩
  · exact ho.lt x hx

theorem Pl.kpt {w w' : World} {B pb mb : Nat} {sl : Value} {L : List ByteArray} {S : List Nat} (h : Pl w B pb mb sl L) (hk : Kpt S w w') (hS : ∀ x ∈ fp pb mb sl, x ∉ S) : Pl w' B pb mb sl L := by
  obtain ⟨h1, h2, hp, ho, hn, hm⟩ := h
  refine ⟨h1, h2, ?_, ho.kpt hk (fun g hg => hS g (mem_fp.2 (.inr (.inr hg)))), hn, hm.kpt hk (hS mb (mem_fp.2 (.inr (.inl rfl))))⟩
  rw [hk.2 pb (Array.getElem?_eq_some_iff.1 hp).1 (hS pb (mem_fp.2 (.inl rfl)))]
  exact hp

theorem Pl.cells {w : World} {B pb mb : Nat} {sl : Value} {L : List ByteArray} (h : Pl w B pb mb sl L) : pb < w.heap.size ∧ w.cell? ⟨pb, 0, none⟩ = some sl ∧ w.cell? ⟨pb, 1, none⟩ = some (.map (some mb)) ∧ w.frozen? ⟨pb, 0, none⟩ = false := by
  obtain ⟨_, _, hp, _⟩ := h
  refine ⟨(Array.getElem?_eq_some_iff.1 hp).1, ?_, ?_, ?_⟩
  · simp [World.cell?, hp]
  · simp [World.cell?, hp]
  · simp [World.frozen?, hp]

theorem Pl.mono {w : World} {B B' pb mb : Nat} {sl : Value} {L : List ByteArray} (h : Pl w B pb mb sl L) (hB : B' ≤ B) : Pl w B' pb mb sl L := by
  obtain ⟨h1, h2, hp, ho, hn, hm⟩ := h
  refine ⟨Nat.le_trans hB h1, Nat.le_trans hB h2, hp, ⟨ho.1, ?_⟩, hn, hm⟩
  rcases ho.2 with h' | ⟨g, cap, cur, e, hb, r⟩
  · exact .inl h'
  · exact .inr ⟨g, cap, cur, e, Nat.le_trans hB hb, r⟩

/-- the answers' Pool in block qb: its texts in sl -/
def Rp (w : World) (B qb : Nat) (sl : Value) (L : List ByteArray) : Prop :=
  B ≤ qb ∧ w.heap[qb]? = some (.cells #[sl] 29 (0, 0)) ∧ OwnS w B sl L ∧ sl.ownBlock ≠ some qb

def fq (qb : Nat) (sl : Value) : List Nat := qb :: sl.ownBlock.toList

theorem mem_fq {qb x : Nat} {sl : Value} : x ∈ fq qb sl ↔ x = qb ∨ sl.ownBlock = some x := by
  unfold fq
  simp

theorem Rp.lt {w : World} {B qb : Nat} {sl : Value} {L : List ByteArray} (h : Rp w B qb sl L) : ∀ x ∈ fq qb sl, B ≤ x ∧ x < w.heap.size := by
  obtain ⟨h1, hp, ho, _⟩ := h
  intro x hx
  rcases mem_fq.1 hx with rfl | hx
  · exact ⟨h1, (Array.getElem?_eq_some_iff.1 hp).1⟩
  · exact ho.lt x hx

theorem Rp.kpt {w w' : World} {B qb : Nat} {sl : Value} {L : List ByteArray} {S : List Nat} (h : Rp w B qb sl L) (hk : Kpt S w w') (hS : ∀ x ∈ fq qb sl, x ∉ S) : Rp w' B qb sl L := by
  obtain ⟨h1, hp, ho, hn⟩ := h
  refine ⟨h1, ?_, ho.kpt hk (fun g hg => hS g (mem_fq.2 (.inr hg))), hn⟩
  rw [hk.2 qb (Array.getElem?_eq_some_iff.1 hp).1 (hS qb (mem_fq.2 (.inl rfl)))]
  exact hp

theorem Rp.cells {w : World} {B qb : Nat} {sl : Value} {L : List ByteArray} (h : Rp w B qb sl L) : qb < w.heap.size ∧ w.cell? ⟨qb, 0, none⟩ = some sl ∧ w.frozen? ⟨qb, 0, none⟩ = false := by
  obtain ⟨_, hp, _⟩ := h
  refine ⟨(Array.getElem?_eq_some_iff.1 hp).1, ?_, ?_⟩
  · simp [World.cell?, hp]
  · simp [World.frozen?, hp]

end Go.Proofs.Ytnpbhpidciiciaa
