/- The law DescWrites answers true. -/
import Derived.Test.YtijbgbggmakfoaaDKnown
import Derived.Test.YtijbgbggmakfoaaDOpen
import Derived.Deep.AppendLies
namespace Go.Proofs.Ytijbgbggmakfoaa
open Go.RowKit

theorem tyCells_inv : ∀ (ts : List Ty) (j : Nat) (u : Value), (tyCells ts)[j]? = some u → ∃ i t, ts[i]? = some t ∧ ((j = i * 2 ∧ u = .int .i64 t.1) ∨ (j = i * 2 + 1 ∧ u = .string t.2))
  | [], j, u, h => by simp [tyCells] at h
  | t :: ts, 0, u, h => by
    have : (tyCells (t :: ts))[0]? = some (.int .i64 t.1) := rfl
    rw [this] at h
    exact ⟨0, t, rfl, .inl ⟨rfl, by simpa using h.symm⟩⟩
  | t :: ts, 1, u, h => by
    have : (tyCells (t :: ts))[1]? = some (.string t.2) := rfl
    rw [this] at h
    exact ⟨0, t, rfl, .inr ⟨rfl, by simpa using h.symm⟩⟩
  | t :: ts, j + 2, u, h => by
    have : (tyCells (t :: ts))[j + 2]? = (tyCells ts)[j]? := rfl
    rw [this] at h
    obtain ⟨i, s, h1, h2⟩ := tyCells_inv ts j u h
    refine ⟨i + 1, s, by simpa using h1, ?_⟩
    rcases h2 with ⟨h2, h3⟩ | ⟨h2, h3⟩
    · exact .inl ⟨by omega, h3⟩
    · exact .inr ⟨by omega, h3⟩

theorem tyCells_one (ts : List Ty) : ∀ u ∈ tyCells ts, u.oneCell' = true := by
  intro u hu
  obtain ⟨t, _, h⟩ := List.mem_flatMap.1 hu
  simp only [List.mem_cons, List.not_mem_nil, or_false] at h
  rcases h with rfl | rfl <;> rfl

theorem run_appT (w : World) (B : Nat) (v : Value) (ts : List Ty) (hown : OwnT w B v ts) (vx : Value) (us : List Ty) (hr : RdT w vx us) (hnil : ∀ n c, vx = .slice none n c → c = 0)
    (hb : ts.length + us.length ≤ 1000000) (hbase : B ≤ w.heap.size) (ty : TypeId) :
    ∃ v' w', (Builtin.append_ #[30, 30] ty #[v, vx]).run Try.prog w = .ok v' w' ∧ OwnT w' B v' (ts ++ us) ∧ w.grownBy w' v.ownBlock := by
  obtain ⟨i0, hi, hz0, hz1, hz2⟩ := info_parts tyInfo
  obtain ⟨p, cap, rfl, h1, h2, h3⟩ := hr
  cases p with
  | none =>
    have hu := h2 rfl
    subst hu
    have hc := hnil _ _ rfl
    subst hc
    refine ⟨v, w, run_append_owned_none w B 30 ty 27 i0 2 Try.underlying30 hi v ts.length (tyCells ts) hown, by rw [List.append_nil]; exact hown, ⟨rfl, rfl, rfl, Nat.le_refl _, fun _ _ _ => rfl⟩⟩
  | some a =>
    obtain ⟨v', w', hrun, g1, g2, _⟩ := run_append_own w B 30 ty 27 i0 (.agg #[.int .i64 0, .string ⟨#[]⟩]) 2 24 Try.underlying30 hi hz0 hz1 hz2 rfl (by decide) v ts.length (tyCells ts) hown a us.length cap (tyCells us) (tyCells_len us)
      (fun j u hj => by
        obtain ⟨i, t, ht, hc⟩ := tyCells_inv us j u hj
        have hne : us ≠ [] := fun e => by subst e; simp at ht
        have hs := h1 a rfl hne
        rw [add_add a j hs]
        obtain ⟨c0, c1⟩ := h3 a rfl i t ht
        rcases hc with ⟨rfl, rfl⟩ | ⟨rfl, rfl⟩
        · exact c0
        · rw [← Nat.add_assoc]; exact c1) (tyCells_one us) (by unfold maxLen; omega) (by omega) hbase
    refine ⟨v', w', hrun, ?_, g2⟩
    unfold OwnT
    rw [List.length_append, tyCells_app]
    exact g1

theorem step_appT {w : World} {ops : Array Oper} {o : Oper} {a : Act} {K : Act → World → Prop} {Q : Exit → Act → World → Prop} {E : Prop} (hw : Region.wanted o (yielded ops a.tmps) = true) (s x : Operand)
    (ho : o.op = .call { callee := .builtin .append, args := #[s, x], argTypes := #[30, 30] })
    (B : Nat) (v : Value) (ts : List Ty) (hs : a.eval s = v) (hown : OwnT w B v ts) (vx : Value) (us : List Ty) (hx : a.eval x = vx) (hr : RdT w vx us) (hnil : ∀ n c, vx = .slice none n c → c = 0)
    (hb : ts.length + us.length ≤ 1000000) (hbase : B ≤ w.heap.size)
    (h : ∀ v' w', OwnT w' B v' (ts ++ us) → w.grownBy w' v.ownBlock → K (a.put o.dst v') w') :
    if Region.wanted o (yielded ops a.tmps) = true then Oper.wp Try.prog o a w K Q else E := by
  rw [if_pos hw]
  obtain ⟨v', w', hrun, g1, g2⟩ := run_appT w B v ts hown vx us hr hnil hb hbase o.type
  unfold Oper.wp execOp
  simp only [ho, resolve, invoke, builtin, Sem.run_bind, Sem.run_pure, Result.andThen_ok, List.map_toArray, List.map_cons, List.map_nil, hs, hx, hrun]
  exact h v' w' g1 g2

/-- the type that lies at a place -/
def TyAt (w : World) (b o : Nat) (k : Int) (c : ByteArray) : Prop := b < w.heap.size ∧ w.cell? ⟨b, o, none⟩ = some (.int .i64 k) ∧ w.cell? ⟨b, o + 1, none⟩ = some (.string c)
theorem TyAt.next {w w' : World} {b o : Nat} {k : Int} {c : ByteArray} (h : TyAt w b o k c) (hb : Below w.heap.size w w') : TyAt w' b o k c :=
  ⟨Nat.lt_of_lt_of_le h.1 hb.size, (hb.cell (p := ⟨b, o, none⟩) h.1).trans h.2.1, (hb.cell (p := ⟨b, o + 1, none⟩) h.1).trans h.2.2⟩
theorem TyAt.drew {w : World} {b o : Nat} {k : Int} {c : ByteArray} (h : TyAt w b o k c) : TyAt w.drew b o k c := h

/-- what the law's last statement reads -/
def CK (p q : Nat) (k0 : Int) (c0 n : ByteArray) (v : Value) (w' : World) : Prop :=
  (p < w'.heap.size ∧ q < w'.heap.size) ∧ w'.cell? ⟨p, 0, none⟩ = some (.int .i64 k0) ∧ w'.cell? ⟨p, 1, none⟩ = some (.string c0) ∧
    w'.cell? ⟨q, 0, none⟩ = some (.string n) ∧ w'.cell? ⟨q, 1, none⟩ = some v ∧ w'.cell? ⟨q, 2, none⟩ = some (.int .i64 k0) ∧ w'.cell? ⟨q, 3, none⟩ = some (.string c0) ∧
    w'.cell? ⟨q, 4, none⟩ = some (.bool false) ∧ w'.cell? ⟨q, 5, none⟩ = some (.bool false) ∧ w'.cell? ⟨q, 6, none⟩ = some (.int .i64 0) ∧ w'.cell? ⟨q, 7, none⟩ = some (.slice none 0 0) ∧ w'.cell? ⟨q, 8, none⟩ = some (.slice none 0 0)
theorem CK.next {p q : Nat} {k0 : Int} {c0 n : ByteArray} {v : Value} {w w' : World} (h : CK p q k0 c0 n v w) (hb : Below w.heap.size w w') : CK p q k0 c0 n v w' := by
  obtain ⟨⟨h1, h2⟩, a0, a1, b0, b1, b2, b3, b4, b5, b6, b7, b8⟩ := h
  have hs := hb.size
  have hp : ∀ o, w'.cell? ⟨p, o, none⟩ = w.cell? ⟨p, o, none⟩ := fun o => hb.cell (p := ⟨p, o, none⟩) h1
  have hq : ∀ o, w'.cell? ⟨q, o, none⟩ = w.cell? ⟨q, o, none⟩ := fun o => hb.cell (p := ⟨q, o, none⟩) h2
  exact ⟨⟨by omega, by omega⟩, (hp _).trans a0, (hp _).trans a1, (hq _).trans b0, (hq _).trans b1, (hq _).trans b2, (hq _).trans b3, (hq _).trans b4, (hq _).trans b5, (hq _).trans b6, (hq _).trans b7, (hq _).trans b8⟩
theorem CK.drew {p q : Nat} {k0 : Int} {c0 n : ByteArray} {v : Value} {w : World} (h : CK p q k0 c0 n v w) : CK p q k0 c0 n v w.drew := h
theorem CK.alloc {p q : Nat} {k0 : Int} {c0 n : ByteArray} {v : Value} {w : World} (h : CK p q k0 c0 n v w) (o : Obj) : CK p q k0 c0 n v (w.alloc o) := h.next ((Below.refl w.heap.size w).alloc (Nat.le_refl _) o)

theorem OwnT.lit (w : World) (k : Int) (c : ByteArray) : OwnT (w.alloc (.cells #[.int .i64 k, .string c] 27)) w.heap.size (.slice (some ⟨w.heap.size, 0, none⟩) 1 1) [(k, c)] :=
  ⟨by simp [tyCells], .inr ⟨w.heap.size, 1, #[.int .i64 k, .string c], rfl, Nat.le_refl _, heap_alloc_new w _, Nat.le_refl _, by unfold maxLen; omega, by simp, by simp [tyCells]⟩⟩

theorem sameB_self (ts : List Ty) : sameB ts ts = true := by unfold sameB; simp
theorem sameB_cons (t : Ty) (ts : List Ty) : sameB ts ([t] ++ ts) = false := sameB_len (by simp)

theorem same_at {va vb : Value} {ts us : List Ty} {x : Bool} (h : sameB ts us = x) {w : World} (ha : RdT w va ts) (hb : RdT w vb us) (hlen : ts.length ≤ 1000000) (hlen2 : us.length ≤ 1000000) :
    Calls Try.prog 13 #[va, vb] w fun e w' => e = .returned (.bool x) ∧ Below w.heap.size w w' := by
  rw [← h]; exact same_any va vb ts us w ha hb hlen hlen2

set_option maxHeartbeats 4000000 in
set_option maxRecDepth 100000 in
theorem writes_law (v0 : Value) (ts : List Ty) (k0 : Int) (c0 n : ByteArray) (w : World) (hg : Glob w) (hr : RdT w v0 ts) (hnil : ∀ n c, v0 = .slice none n c → c = 0) (hts : ∀ t ∈ ts, t.2.size ≤ maxLen) (hc0 : c0.size ≤ 140737488355328) (hn : n.size ≤ 140737488355328) (hlm : ts.length ≤ 9223372036854775807) :
    Calls Try.prog 4 #[v0, .agg #[.int .i64 k0, .string c0], .string n] w fun e w' => e = .returned (.bool true) ∧ Below w.heap.size w w' := by
  obtain ⟨p, cap, rfl, h1, h2, h3⟩ := id hr
  have HR := Lib.hid hr
  have HTS := Lib.hid hts
  have HNIL := Lib.hid hnil
  clear hts hr h1 h2 h3 hnil
  by_cases h12 : 12 < ts.length
  · go_enter Try.func4, Try.ntmps4
    go_wp2_with fail
    refine (known_any _ (hg.alloc _)).mono ?_
    rintro e w1 ⟨rfl, hb1⟩
    obtain ⟨hlt1, hne1, ha0, ha1, hf0, hf1, hb2⟩ := box2 hb1
    go_wp2_with fail
    go_ret
    exact ⟨rfl, hb2⟩
  have h12' : ts.length ≤ 12 := by omega
  have h12b : decide (12 < (ts.length : Int)) = false := decide_eq_false (by omega)
  by_cases h200 : 200 < c0.size + n.size
  · have h200' : (200 : Int) < (c0.size : Int) + n.size := by omega
    clear h12
    go_enter Try.func4, Try.ntmps4
    go_wp2_with fail
    refine (known_any _ (hg.alloc _)).mono ?_
    rintro e w1 ⟨rfl, hb1⟩
    obtain ⟨hlt1, hne1, ha0, ha1, hf0, hf1, hb2⟩ := box2 hb1
    go_wp2_with fail
    go_ret
    exact ⟨rfl, hb2⟩
  have h200' : (c0.size : Int) + n.size ≤ 200 := by omega
  have h200b : decide (200 < (c0.size : Int) + n.size) = false := decide_eq_false (by omega)
  clear h12 h200
  go_enter Try.func4, Try.ntmps4
  go_wp2_with fail
  refine (known_any _ (hg.alloc _)).mono ?_
  rintro e w1 ⟨rfl, hb1⟩
  have hbx := box2 hb1
  obtain ⟨hlt1, hne1, ha0, ha1, hf0, hf1, hb2⟩ := hbx
  clear hb1
  go_wp2_with fail
  go_loopw [7] (fun i wr => ∃ k : Nat, k ≤ ts.length ∧ i = .int .i64 k ∧ (∀ j t, j < k → ts[j]? = some t → t.2.size ≤ 100) ∧ Below w1.heap.size w1 wr) (fun i _ => ts.length - (intOf i).toNat)
  case atStart => exact ⟨0, Nat.zero_le _, rfl, fun j t h => absurd h (Nat.not_lt_zero _), Below.refl _ _⟩
  case round =>
    obtain ⟨k, hk, rfl, hsm, hbl⟩ := hrel
    have HSM := Lib.hid hsm
    clear hsm
    obtain ⟨hlt2, hne2, hd0, hd1, he0, he1, hb3⟩ := box_next ⟨hlt1, hne1, ha0, ha1, hf0, hf1, hb2⟩ hbl
    clear ha0 ha1 hf0 hf1
    have hrr := HR.out.below hb3 (Nat.le_refl _)
    by_cases hlt : k < ts.length
    · obtain ⟨⟨x0, x1⟩, hx⟩ : ∃ t, ts[k]? = some t := ⟨_, List.getElem?_eq_getElem hlt⟩
      obtain ⟨p', cap', e', g1, g2, g3⟩ := hrr
      simp only [Value.slice.injEq, true_and] at e'
      obtain ⟨rfl, rfl⟩ := e'
      have hne : ts ≠ [] := fun e => by subst e; simp at hlt
      obtain ⟨⟨b, off, spot⟩, rfl⟩ : ∃ a, p = some a := by
        cases p with
        | none => exact absurd (g2 rfl) hne
        | some a => exact ⟨a, rfl⟩
      obtain rfl : spot = none := g1 _ rfl hne
      obtain ⟨cx0, cx1⟩ := g3 _ rfl k _ hx
      simp only at cx0 cx1
      have hxm := HTS.out _ (List.mem_of_getElem? hx)
      simp only at hxm
      unfold maxLen at hxm
      have gx := World.block_lt_of_cell? _ _ cx0
      simp only at gx
      have hT : TyAt wr b (off + k * 2) x0 x1 := ⟨gx, cx0, cx1⟩
      have hki0 : (0 : Int) ≤ (k : Int) := Int.natCast_nonneg _
      have hki1 : (k : Int) < (ts.length : Int) := by omega
      have HX := Lib.hid hx
      clear g1 g2 g3 hne hx
      by_cases h100 : 100 < x1.size
      · go_wp2_with fail
        go_ret
        exact ⟨rfl, hb3⟩
      · have h100' : x1.size ≤ 100 := by omega
        have HSM2 : Hid (∀ j t, j < k + 1 → ts[j]? = some t → t.2.size ≤ 100) := Lib.hid (by
          intro j t hj ht
          by_cases e : j = k
          · subst e
            rw [HX.out] at ht
            simp only [Option.some.injEq] at ht
            subst ht
            exact h100'
          · exact HSM.out j t (by omega) ht)
        clear hxm h100
        go_wp2_with fail
        go_region_held3 (fun w' => w'.cell? ⟨b, off + k * 2, none⟩ = some (.int .i64 x0) ∧ w'.cell? ⟨b, off + k * 2 + 1, none⟩ = some (.string x1))
          (first | go_keep | exact hT1.2 | exact hT2.2 | exact hT3.2 | exact hT4.2)
          (first
            | (go_at_call 18; refine (right_any x0 x1 _ (by omega)).mono ?_; rintro e w2 ⟨rfl, hr1⟩; have hT1 := hT.drew.next hr1)
            | (go_at_call 19; refine (rright_any x0 x1 _ (by omega)).mono ?_; rintro e w3 ⟨rfl, hr2⟩; have hT2 := hT1.next hr2)
            | (go_at_call 17; refine (type_any x0 x1 _ (by omega)).mono ?_; rintro e w4 ⟨rfl, hr3⟩; have hT3 := hT2.next hr3)
            | (go_at_call 20; refine (rtype_any x0 x1 _ (by omega)).mono ?_; rintro e w5 ⟨rfl, hr4⟩; have hT4 := hT3.next hr4))
        have hbl2 : Below w1.heap.size w1 w5 := by
          have hs0 := hbl.size
          have hs1 := hr1.size
          have hs2 := hr2.size
          have hs3 := hr3.size
          simp at hs1
          exact (((hbl.drew.trans (hr1.mono (by simp; omega))).trans (hr2.mono (by omega))).trans (hr3.mono (by omega))).trans (hr4.mono (by omega))
        clear hT hT1 hT2 hT3 hT4 hr1 hr2 hr3 hr4 cx0 cx1
        go_wp2_with fail
        go_roundw
        case rel => exact ⟨k + 1, by omega, by go_num, HSM2.out, hbl2⟩
        case measure => simp [intOf]; omega
    · have hbig : ∀ t ∈ ts, t.2.size ≤ 1000000 := fun t ht => by
        obtain ⟨i, hi⟩ := List.mem_iff_getElem?.1 ht
        have := HSM.out i t (by have := (List.getElem?_eq_some_iff.1 hi).1; omega) hi
        omega
      have HBIG := Lib.hid hbig
      have hRR := Lib.hid hrr
      clear hbig hrr
      go_wp2_with fail
      have hC0 : CK w.heap.size wr.heap.size k0 c0 n (.slice p ts.length cap) (wr.alloc (.cells #[.string n, .slice p ts.length cap, .int .i64 k0, .string c0, .bool false, .bool false, .int .i64 0, .slice none 0 0, .slice none 0 0] 42)) := by
        have hal := (Below.refl wr.heap.size wr).alloc (Nat.le_refl _) (.cells #[.string n, .slice p ts.length cap, .int .i64 k0, .string c0, .bool false, .bool false, .int .i64 0, .slice none 0 0, .slice none 0 0] 42)
        refine ⟨⟨by simp; omega, by simp⟩, (hal.cell (p := ⟨w.heap.size, 0, none⟩) hlt2).trans hd0, (hal.cell (p := ⟨w.heap.size, 1, none⟩) hlt2).trans hd1, ?_⟩
        simp
      have hR0 := hRR.out.below ((Below.refl wr.heap.size wr).alloc (Nat.le_refl _) (.cells #[.string n, .slice p ts.length cap, .int .i64 k0, .string c0, .bool false, .bool false, .int .i64 0, .slice none 0 0, .slice none 0 0] 42)) (Nat.le_refl _)
      have hB0 : Below w.heap.size w (wr.alloc (.cells #[.string n, .slice p ts.length cap, .int .i64 k0, .string c0, .bool false, .bool false, .int .i64 0, .slice none 0 0, .slice none 0 0] 42)).drew := (hb3.alloc (by omega) _).drew
      clear hd0 hd1 he0 he1 hbl
      go_region_held3 (fun w' => w'.cell? ⟨w.heap.size, 0, none⟩ = some (.int .i64 k0) ∧ w'.cell? ⟨w.heap.size, 1, none⟩ = some (.string c0) ∧
          w'.cell? ⟨wr.heap.size, 0, none⟩ = some (.string n) ∧ w'.cell? ⟨wr.heap.size, 1, none⟩ = some (.slice p ts.length cap) ∧ w'.cell? ⟨wr.heap.size, 2, none⟩ = some (.int .i64 k0) ∧ w'.cell? ⟨wr.heap.size, 3, none⟩ = some (.string c0) ∧
          w'.cell? ⟨wr.heap.size, 4, none⟩ = some (.bool false) ∧ w'.cell? ⟨wr.heap.size, 5, none⟩ = some (.bool false) ∧ w'.cell? ⟨wr.heap.size, 6, none⟩ = some (.int .i64 0) ∧ w'.cell? ⟨wr.heap.size, 7, none⟩ = some (.slice none 0 0) ∧ w'.cell? ⟨wr.heap.size, 8, none⟩ = some (.slice none 0 0))
        (first | exact hC0.2 | exact hC1.2 | exact hC2.2 | exact hC3.2 | exact hC4.2 | exact hC5.2 | exact hC6.2 | exact hC7.2 | exact hC8.2 | exact hC9.2 | exact hC10.2)
        (first
          | (go_at_call 16; refine (of_any _ ts k0 c0 _ hR0.drew (by omega) HBIG.out (by omega)).mono ?_; rintro e w2 ⟨rfl, f1⟩; have hC1 := hC0.drew.next f1; have hR1 := hR0.drew.below f1 (Nat.le_refl _); have hB1 := hB0.trans (f1.mono hB0.size); clear f1)
          | (go_at_call 21; refine (rof_any _ ts k0 c0 _ hR1 (by omega) HBIG.out (by omega)).mono ?_; rintro e w3 ⟨rfl, f2⟩; have hC2 := hC1.next f2; have hR2 := hR1.below f2 (Nat.le_refl _); have hB2 := hB1.trans (f2.mono hB1.size); clear f2)
          | (go_at_call 22; refine (key_any n _ ts k0 c0 false false 0 (.slice none 0 0) (.slice none 0 0) _ hR2 (by omega) HBIG.out (by omega) (by omega)).mono ?_; rintro e w4 ⟨rfl, f3⟩; have hC3 := hC2.next f3; have hR3 := hR2.below f3 (Nat.le_refl _); have hB3 := hB2.trans (f3.mono hB2.size); clear f3)
          | (go_at_call 23; refine (rkey_any n _ ts k0 c0 false false 0 (.slice none 0 0) (.slice none 0 0) _ hR3 (by omega) HBIG.out (by omega) (by omega)).mono ?_; rintro e w5 ⟨rfl, f4⟩; have hC4 := hC3.next f4; have hR4 := hR3.below f4 (Nat.le_refl _); have hB4 := hB3.trans (f4.mono hB3.size); clear f4)
          | (go_at_call 13; refine (same_at (sameB_cons (k0, c0) ts) hR7 ho7.rd (by omega) (by simp; omega)).mono ?_; rintro e w8 ⟨rfl, f8⟩; have hC8 := hC7.next f8; have hB8 := hB7.trans (f8.mono hB7.size); clear f8)
          | (go_at_call 13; refine (same_at (sameB_self ts) hR4 hR4 (by omega) (by omega)).mono ?_; rintro e w6 ⟨rfl, f5⟩; have hC5 := hC4.next f5; have hR5 := hR4.below f5 (Nat.le_refl _); have hB5 := hB4.trans (f5.mono hB4.size); have hC6 := hC5.alloc (.cells #[.int .i64 k0, .string c0] 27); have hR6 := hR5.below ((Below.refl w6.heap.size w6).alloc (Nat.le_refl _) (.cells #[.int .i64 k0, .string c0] 27)) (Nat.le_refl _); have hw6 := hB5.size; clear f5)
          | (go_at_call 18; refine (right_any k0 c0 _ (by omega)).mono ?_; rintro e w9 ⟨rfl, f9⟩; have hC9 := hC8.next f9; have hB9 := hB8.trans (f9.mono hB8.size); clear f9)
          | (go_at_call 19; refine (rright_any k0 c0 _ (by omega)).mono ?_; rintro e w10 ⟨rfl, f10⟩; have hC10 := hC9.next f10; have hB10 := hB9.trans (f10.mono hB9.size); clear f10)
          | (refine step_appT (by rfl) _ _ (by rfl) w6.heap.size (.slice (some ⟨w6.heap.size, 0, none⟩) 1 1) [(k0, c0)] (by rfl) (OwnT.lit w6 k0 c0) _ ts (by rfl) hR6 HNIL.out (by simp; omega) (by simp) ?_; intro v7 w7 ho7 hg7; have f7 : Below w6.heap.size w6 w7 := ((Below.refl _ w6).alloc (Nat.le_refl _) _).grown hg7 (by simp) (fun k hk => by cases hk; exact Nat.le_refl _); have hC7 := hC5.next f7; have hR7 := hR5.below f7 (Nat.le_refl _); have hB7 := hB5.trans (f7.mono hw6); clear f7 hg7))
      go_wp2_with fail
      go_ret
      exact ⟨rfl, hB10⟩
end Go.Proofs.Ytijbgbggmakfoaa
