/- Texts that the proof is made of, joined. No condition. -/
import Derived.Test.YtjegocecgncpkaaC916
import Derived.Test.YtjegocecgncpkaaC9H
set_option linter.unusedVariables false
set_option linter.unusedSimpArgs false
set_option maxRecDepth 100000
set_option maxHeartbeats 16000000
namespace Go.Proofs.Ytjegocecgncpkaa.R
open Go.RowKit Go.Proofs.Ytjegocecgncpkaa.D Go.Proofs.Ytjegocecgncpkaa.O Go.Proofs.Ytjegocecgncpkaa.A
def ifcM : Mth := ⟨⟨#[109]⟩, [], (5, es), false, true, 0, [], []⟩
def ifcI (u : Bool) : List ByteArray := if u then [⟨#[81]⟩, ⟨#[80]⟩] else [⟨#[80]⟩, ⟨#[81]⟩]
def ifcL (p q r o u : Bool) : List Cls := [⟨⟨#[67]⟩, ⟨#[79, 98, 106, 101, 99, 116]⟩, ifcI u, 2, [], whenS o [ifcM]⟩, ⟨⟨#[80]⟩, ⟨#[79, 98, 106, 101, 99, 116]⟩, [⟨#[82]⟩], 4, [], whenS p [ifcM]⟩, ⟨⟨#[81]⟩, ⟨#[79, 98, 106, 101, 99, 116]⟩, [], 4, [], whenS q [ifcM]⟩, ⟨⟨#[82]⟩, ⟨#[79, 98, 106, 101, 99, 116]⟩, [], 4, [], whenS r [ifcM]⟩]
def ifcO (p q r o u : Bool) : List (Bool × ByteArray) := if u then [(o, ⟨#[67]⟩), (q, ⟨#[81]⟩), (p, ⟨#[80]⟩), (r, ⟨#[82]⟩)] else [(o, ⟨#[67]⟩), (p, ⟨#[80]⟩), (r, ⟨#[82]⟩), (q, ⟨#[81]⟩)]
def wantL : List (Bool × ByteArray) → ByteArray
  | [] => es
  | (b, n) :: l => if b = true then n else wantL l
theorem wantL_no {l : List (Bool × ByteArray)} {n : ByteArray} : wantL (l ++ [(false, n)]) = wantL l := by
  induction l with
  | nil => rfl
  | cons x l ih => obtain ⟨b, m⟩ := x; show (if b = true then m else wantL (l ++ _)) = if b = true then m else wantL l; rw [ih]
theorem wantL_yes {l : List (Bool × ByteArray)} {n : ByteArray} (h : ∀ x ∈ l, x.2 ≠ es) : wantL (l ++ [(true, n)]) = if wantL l = es then n else wantL l := by
  induction l with
  | nil => rfl
  | cons x l ih =>
    obtain ⟨b, m⟩ := x
    show (if b = true then m else wantL (l ++ _)) = if (if b = true then m else wantL l) = es then n else if b = true then m else wantL l
    by_cases hb : b = true
    · rw [if_pos hb, if_pos hb, if_neg (h (b, m) (by simp))]
    · rw [if_neg hb, if_neg hb, ih (fun x hx => h x (List.mem_cons_of_mem _ hx))]
def ifcR (p q r o u : Bool) : Option (ByteArray × Mth) := if (o || p || q || r) = true then some (wantL (ifcO p q r o u), ifcM) else none
theorem ifc_method (p q r o u : Bool) : methodK (keepL (ifcL p q r o u)) ⟨#[67]⟩ ⟨#[109]⟩ ⟨#[40, 41, 86]⟩ = ifcR p q r o u := by cases p <;> cases q <;> cases r <;> cases o <;> cases u <;> kernel_rfl
theorem ifc_virtual (p q r o u : Bool) : virtualK (keepL (ifcL p q r o u)) ⟨#[67]⟩ ⟨#[109]⟩ ⟨#[40, 41, 86]⟩ = none := by cases p <;> cases q <;> cases r <;> cases o <;> cases u <;> kernel_rfl
theorem ifc_sz (p q r o u : Bool) : SzT ((ifcL p q r o u).map skOf) := szT_small (by cases p <;> cases q <;> cases r <;> cases o <;> cases u <;> decide +kernel)
theorem ifc_sm : FewM ifcM ∧ SzM ifcM := ⟨⟨Nat.zero_le _, Nat.zero_le _, Nat.zero_le _⟩, Nat.zero_le _, fun u hu => (by cases hu), (by decide)⟩
theorem ifc_few (p q r o u : Bool) : ∀ c ∈ ifcL p q r o u, FewC c ∧ FewK c := by
  have h1 : ∀ b : Bool, ∀ m ∈ whenS b [ifcM], FewM m := fun b => when_all (one_all ifc_sm.1 nil_all)
  have h2 : ∀ b : Bool, ∀ m ∈ whenS b [ifcM], SzM m := fun b => when_all (one_all ifc_sm.2 nil_all)
  have h3 : ∀ b : Bool, (whenS b [ifcM]).length ≤ 100 := fun b => Nat.le_trans (when_len _ _) (by simp)
  exact one_all ⟨few_cls (by cases u <;> simp [ifcI]) (by simp) (h3 o) (h1 o), by simp, h2 o⟩ (one_all ⟨few_cls (by simp) (by simp) (h3 p) (h1 p), by simp, h2 p⟩ (one_all ⟨few_cls (by simp) (by simp) (h3 q) (h1 q), by simp, h2 q⟩ (one_all ⟨few_cls (by simp) (by simp) (h3 r) (h1 r), by simp, h2 r⟩ nil_all)))
theorem ifc_ask (p q r o u : Bool) : AskK (keepL (ifcL p q r o u)) := askK_of (keep_few (fun c hc => (ifc_few p q r o u c hc).1)) (fun c hc => (ifc_few p q r o u c (keepL_mem _ c hc)).2)
def mvI (m : Nat) (b : Bool) (i j : Nat) : Value := cond (decide (j < i) && b) (.slice (some ⟨m, 0, none⟩) 1 1) (.slice none 0 0)
def lsI (m ci pi : Nat) (p q r o : Bool) (i : Nat) : List (List Value) :=
  [[.string ⟨#[67]⟩, .string ⟨#[79, 98, 106, 101, 99, 116]⟩, .slice (some ⟨ci, 0, none⟩) 2 2, .int .i64 2, .slice none 0 0, mvI m o i 0], [.string ⟨#[80]⟩, .string ⟨#[79, 98, 106, 101, 99, 116]⟩, .slice (some ⟨pi, 0, none⟩) 1 1, .int .i64 4, .slice none 0 0, mvI m p i 1], [.string ⟨#[81]⟩, .string ⟨#[79, 98, 106, 101, 99, 116]⟩, .slice none 0 0, .int .i64 4, .slice none 0 0, mvI m q i 2], [.string ⟨#[82]⟩, .string ⟨#[79, 98, 106, 101, 99, 116]⟩, .slice none 0 0, .int .i64 4, .slice none 0 0, mvI m r i 3]]
def arrI (m ci pi : Nat) (p q r o : Bool) (i : Nat) : Array Value := (lsI m ci pi p q r o i).flatten.toArray
theorem ifc_w (p q r o u : Bool) : ((wantL (ifcO p q r o u)).toList == []) = !(o || p || q || r) ∧ ((o || p || q || r) = false → wantL (ifcO p q r o u) = es) := by cases p <;> cases q <;> cases r <;> cases o <;> cases u <;> decide +kernel
theorem ifc_nm (p q r o u : Bool) : ∀ x ∈ ifcO p q r o u, x.2 ≠ es := by cases u <;> (intro x hx; simp only [ifcO, Bool.false_eq_true, if_false, if_true, List.mem_cons, List.mem_nil_iff, or_false] at hx; rcases hx with rfl | rfl | rfl | rfl <;> (dsimp only; decide))
theorem mv_rd {W : World} {m : Nat} (h : W.heap[m]? = some (.cells #[.string ⟨#[109]⟩, .slice none 0 0, .int .i64 5, .string ⟨#[]⟩, .bool false, .bool true, .int .i64 0, .slice none 0 0, .slice none 0 0] 44 (0, 0))) (b : Bool) {j : Nat} (hj : j < 4) : RdX 9 mP anyB W (mvI m b 4 j) (whenS b [ifcM]) := by
  unfold mvI
  rw [decide_eq_true hj]
  cases b with
  | false => exact RdX.nil _ _ _ _
  | true => exact rd_block (P := mP) [[.string ⟨#[109]⟩, .slice none 0 0, .int .i64 5, .string ⟨#[]⟩, .bool false, .bool true, .int .i64 0, .slice none 0 0, .slice none 0 0]] [ifcM] _ h rfl trivial ⟨⟨⟨_, _, _, rfl, RdX.nil _ _ _ _, RdX.nil _ _ _ _, RdX.nil _ _ _ _⟩, rfl⟩, trivial⟩ 1 1 rfl (Nat.le_refl _)
set_option maxHeartbeats 8000000 in
set_option maxRecDepth 100000 in
theorem ifac_l (p q r o u : Bool) (w : World) :
    Calls Try.prog 7 #[.bool p, .bool q, .bool r, .bool o, .bool u] w fun e w' => e = .returned (.bool true) ∧ Below w.heap.size w w' := by
  cases u with
  | false =>
    go_enter Try.func7, Try.ntmps7
    try simp only [List.append_eq, List.cons_append, List.nil_append]
    go_wp2_with fail
    refine (known_9 w).mono ?_
    rintro e w1 ⟨rfl, hb1⟩
    have HB1 := Lib.hid hb1
    clear hb1
    go_upto_region 9 with fail
    obtain ⟨hat, hbl, hsz⟩ := allocs_at [.cells #[.string ⟨#[109]⟩, .slice none 0 0, .int .i64 5, .string ⟨#[]⟩, .bool false, .bool true, .int .i64 0, .slice none 0 0, .slice none 0 0] 44, .cells #[.string ⟨#[80]⟩, .string ⟨#[81]⟩] 9, .cells #[.string ⟨#[67]⟩, .string ⟨#[79, 98, 106, 101, 99, 116]⟩, .slice (some ⟨w1.heap.size + 1, 0, none⟩) 2 2, .int .i64 2, .slice none 0 0, .slice none 0 0] 50, .cells #[.string ⟨#[82]⟩] 9, .cells #[.string ⟨#[67]⟩, .string ⟨#[79, 98, 106, 101, 99, 116]⟩, .slice (some ⟨w1.heap.size + 1, 0, none⟩) 2 2, .int .i64 2, .slice none 0 0, .slice none 0 0, .string ⟨#[80]⟩, .string ⟨#[79, 98, 106, 101, 99, 116]⟩, .slice (some ⟨w1.heap.size + 1 + 1 + 1, 0, none⟩) 1 1, .int .i64 4, .slice none 0 0, .slice none 0 0, .string ⟨#[81]⟩, .string ⟨#[79, 98, 106, 101, 99, 116]⟩, .slice none 0 0, .int .i64 4, .slice none 0 0, .slice none 0 0, .string ⟨#[82]⟩, .string ⟨#[79, 98, 106, 101, 99, 116]⟩, .slice none 0 0, .int .i64 4, .slice none 0 0, .slice none 0 0] 50, .cells #[.slice (some ⟨w1.heap.size + 1 + 1 + 1 + 1, 0, none⟩) 4 4] 28, .cells #[.bool o, .bool p, .bool q, .bool r] 4] w1
    obtain ⟨w8, hw8⟩ : ∃ z, z = List.foldl World.alloc w1 [.cells #[.string ⟨#[109]⟩, .slice none 0 0, .int .i64 5, .string ⟨#[]⟩, .bool false, .bool true, .int .i64 0, .slice none 0 0, .slice none 0 0] 44, .cells #[.string ⟨#[80]⟩, .string ⟨#[81]⟩] 9, .cells #[.string ⟨#[67]⟩, .string ⟨#[79, 98, 106, 101, 99, 116]⟩, .slice (some ⟨w1.heap.size + 1, 0, none⟩) 2 2, .int .i64 2, .slice none 0 0, .slice none 0 0] 50, .cells #[.string ⟨#[82]⟩] 9, .cells #[.string ⟨#[67]⟩, .string ⟨#[79, 98, 106, 101, 99, 116]⟩, .slice (some ⟨w1.heap.size + 1, 0, none⟩) 2 2, .int .i64 2, .slice none 0 0, .slice none 0 0, .string ⟨#[80]⟩, .string ⟨#[79, 98, 106, 101, 99, 116]⟩, .slice (some ⟨w1.heap.size + 1 + 1 + 1, 0, none⟩) 1 1, .int .i64 4, .slice none 0 0, .slice none 0 0, .string ⟨#[81]⟩, .string ⟨#[79, 98, 106, 101, 99, 116]⟩, .slice none 0 0, .int .i64 4, .slice none 0 0, .slice none 0 0, .string ⟨#[82]⟩, .string ⟨#[79, 98, 106, 101, 99, 116]⟩, .slice none 0 0, .int .i64 4, .slice none 0 0, .slice none 0 0] 50, .cells #[.slice (some ⟨w1.heap.size + 1 + 1 + 1 + 1, 0, none⟩) 4 4] 28, .cells #[.bool o, .bool p, .bool q, .bool r] 4] := ⟨_, rfl⟩
    rw [← hw8] at hat hbl hsz
    have HM := Lib.hid (hat 0 _ rfl)
    have HI := Lib.hid (hat 1 _ rfl)
    have HP := Lib.hid (hat 3 _ rfl)
    have HC0 := Lib.hid (hat 4 _ rfl)
    have HR := Lib.hid (hat 5 _ rfl)
    have HBB := Lib.hid (hat 6 _ rfl)
    have HB8 := Lib.hid hbl
    simp only [List.foldl_cons, List.foldl_nil] at hw8
    rw [← hw8]
    clear hat hbl hw8
    simp only [List.length_cons, List.length_nil, Nat.zero_add, Nat.reduceAdd] at hsz
    obtain ⟨a, ha⟩ : ∃ z, w1.heap.size = z := ⟨_, rfl⟩
    rw [ha] at HM HI HP HC0 HR HBB hsz
    try rw [ha]
    have HA0 := Lib.hid ha
    clear ha
    simp only [Nat.add_assoc, Nat.reduceAdd, Nat.add_zero] at HM HI HP HC0 HR HBB ⊢
    have HCI : Hid (w8.heap[a + 4]? = some (.cells (arrI a (a + 1) (a + 3) p q r o 0) 50 (0, 0))) := Lib.hid HC0.out
    clear HC0
    go_loopw [50] (fun v wr => ∃ i : Nat, v = .int .i64 (i : Int) ∧ i ≤ 4 ∧ Hid (wr.heap[a + 4]? = some (.cells (arrI a (a + 1) (a + 3) p q r o i) 50 (0, 0))) ∧ Hid (Kpt [a + 4] w8 wr)) (fun v _ => 4 - (intOf v).toNat)
    case atStart => exact ⟨0, rfl, by omega, HCI, Lib.hid (Kpt.refl _ _)⟩
    case round =>
      clear HCI
      obtain ⟨i, rfl, hi, HC, HK⟩ := hrel
      have hzr := HK.out.size
      have hR : wr.heap[a + 5]? = _ := (HK.out.2 _ (by omega) (by simp)).trans HR.out
      have hBB : wr.heap[a + 6]? = _ := (HK.out.2 _ (by omega) (by simp)).trans HBB.out
      obtain ⟨rl, rc, -⟩ := boxN hR
      have r0 := rc 0 _ rfl
      obtain ⟨kl, kc, -⟩ := boxN hBB
      have k0 := kc 0 _ rfl
      have k1 := kc 1 _ rfl
      have k2 := kc 2 _ rfl
      have k3 := kc 3 _ rfl
      simp only [Nat.zero_add] at r0 k0 k1 k2 k3
      have cl : a + 4 < wr.heap.size := by omega
      clear rc kc hR hBB
      match i, hi with
      | 0, _ =>
        have HCj := HC
        cases o with
        | false =>
          go_wp2_with fail
          go_roundw
          case rel => exact ⟨1, by go_num, by omega, Lib.hid HC.out, HK⟩
          case measure => simp [intOf]
        | true =>
          have c5 : wr.cell? ⟨a + 4, 5, none⟩ = some (.slice none 0 0) := by simp only [World.cell?, HC.out]; rfl
          have z5 : wr.frozen? ⟨a + 4, 5, none⟩ = false := by simp only [World.frozen?, HC.out]; rfl
          have HC2 : Hid ((wr.setCell ⟨a + 4, 5, none⟩ (.slice (some ⟨a, 0, none⟩) 1 1)).heap[a + 4]? = some (.cells (arrI a (a + 1) (a + 3) p q r true 1) 50 (0, 0))) := Lib.hid (by rw [heap_setCell_same _ _ 5 _ _ _ HC.out]; rfl)
          have HK2 : Hid (Kpt [a + 4] w8 (wr.setCell ⟨a + 4, 5, none⟩ (.slice (some ⟨a, 0, none⟩) 1 1))) := Lib.hid (HK.out.trans (Kpt.set [a + 4] _ _ _ _ (by simp)) (fun _ h => .inl h))
          go_wp2_with fail
          go_roundw
          case rel => exact ⟨1, by go_num, by omega, HC2, HK2⟩
          case measure => simp [intOf]
      | 1, _ =>
        have HCj := HC
        cases p with
        | false =>
          go_wp2_with fail
          go_roundw
          case rel => exact ⟨2, by go_num, by omega, Lib.hid HC.out, HK⟩
          case measure => simp [intOf]
        | true =>
          have c5 : wr.cell? ⟨a + 4, 11, none⟩ = some (.slice none 0 0) := by simp only [World.cell?, HC.out]; rfl
          have z5 : wr.frozen? ⟨a + 4, 11, none⟩ = false := by simp only [World.frozen?, HC.out]; rfl
          have HC2 : Hid ((wr.setCell ⟨a + 4, 11, none⟩ (.slice (some ⟨a, 0, none⟩) 1 1)).heap[a + 4]? = some (.cells (arrI a (a + 1) (a + 3) true q r o 2) 50 (0, 0))) := Lib.hid (by rw [heap_setCell_same _ _ 11 _ _ _ HC.out]; rfl)
          have HK2 : Hid (Kpt [a + 4] w8 (wr.setCell ⟨a + 4, 11, none⟩ (.slice (some ⟨a, 0, none⟩) 1 1))) := Lib.hid (HK.out.trans (Kpt.set [a + 4] _ _ _ _ (by simp)) (fun _ h => .inl h))
          go_wp2_with fail
          go_roundw
          case rel => exact ⟨2, by go_num, by omega, HC2, HK2⟩
          case measure => simp [intOf]
      | 2, _ =>
        have HCj := HC
        cases q with
        | false =>
          go_wp2_with fail
          go_roundw
          case rel => exact ⟨3, by go_num, by omega, Lib.hid HC.out, HK⟩
          case measure => simp [intOf]
        | true =>
          have c5 : wr.cell? ⟨a + 4, 17, none⟩ = some (.slice none 0 0) := by simp only [World.cell?, HC.out]; rfl
          have z5 : wr.frozen? ⟨a + 4, 17, none⟩ = false := by simp only [World.frozen?, HC.out]; rfl
          have HC2 : Hid ((wr.setCell ⟨a + 4, 17, none⟩ (.slice (some ⟨a, 0, none⟩) 1 1)).heap[a + 4]? = some (.cells (arrI a (a + 1) (a + 3) p true r o 3) 50 (0, 0))) := Lib.hid (by rw [heap_setCell_same _ _ 17 _ _ _ HC.out]; rfl)
          have HK2 : Hid (Kpt [a + 4] w8 (wr.setCell ⟨a + 4, 17, none⟩ (.slice (some ⟨a, 0, none⟩) 1 1))) := Lib.hid (HK.out.trans (Kpt.set [a + 4] _ _ _ _ (by simp)) (fun _ h => .inl h))
          go_wp2_with fail
          go_roundw
          case rel => exact ⟨3, by go_num, by omega, HC2, HK2⟩
          case measure => simp [intOf]
      | 3, _ =>
        have HCj := HC
        cases r with
        | false =>
          go_wp2_with fail
          go_roundw
          case rel => exact ⟨4, by go_num, by omega, Lib.hid HC.out, HK⟩
          case measure => simp [intOf]
        | true =>
          have c5 : wr.cell? ⟨a + 4, 23, none⟩ = some (.slice none 0 0) := by simp only [World.cell?, HC.out]; rfl
          have z5 : wr.frozen? ⟨a + 4, 23, none⟩ = false := by simp only [World.frozen?, HC.out]; rfl
          have HC2 : Hid ((wr.setCell ⟨a + 4, 23, none⟩ (.slice (some ⟨a, 0, none⟩) 1 1)).heap[a + 4]? = some (.cells (arrI a (a + 1) (a + 3) p q true o 4) 50 (0, 0))) := Lib.hid (by rw [heap_setCell_same _ _ 23 _ _ _ HC.out]; rfl)
          have HK2 : Hid (Kpt [a + 4] w8 (wr.setCell ⟨a + 4, 23, none⟩ (.slice (some ⟨a, 0, none⟩) 1 1))) := Lib.hid (HK.out.trans (Kpt.set [a + 4] _ _ _ _ (by simp)) (fun _ h => .inl h))
          go_wp2_with fail
          go_roundw
          case rel => exact ⟨4, by go_num, by omega, HC2, HK2⟩
          case measure => simp [intOf]
      | 4, _ =>
        clear r0 k0 k1 k2 k3 rl kl cl
        have hM : wr.heap[a]? = _ := (HK.out.2 _ (by omega) (by simp)).trans HM.out
        have hI : wr.heap[a + 1]? = _ := (HK.out.2 _ (by omega) (by simp)).trans HI.out
        have hP : wr.heap[a + 3]? = _ := (HK.out.2 _ (by omega) (by simp)).trans HP.out
        have hR : wr.heap[a + 5]? = _ := (HK.out.2 _ (by omega) (by simp)).trans HR.out
        obtain ⟨rl, rc, -⟩ := boxN hR
        have r0 := rc 0 _ rfl
        simp only [Nat.zero_add] at r0
        have HRD : Hid (RdX 6 cP anyB wr (.slice (some ⟨a + 4, 0, none⟩) (ifcL p q r o false).length 4) (ifcL p q r o false)) := Lib.hid (rd_block (P := cP) (lsI a (a + 1) (a + 3) p q r o 4) (ifcL p q r o false) _ HC.out rfl trivial ⟨⟨⟨_, _, _, rfl, rd_block (P := sP strC) [[.string ⟨#[80]⟩], [.string ⟨#[81]⟩]] (ifcI false) _ hI rfl trivial ⟨⟨rfl, rfl⟩, ⟨rfl, rfl⟩, trivial⟩ 2 2 rfl (Nat.le_refl _), RdX.nil _ _ _ _, mv_rd hM o (by decide)⟩, rfl⟩,
          ⟨⟨_, _, _, rfl, rd_block (P := sP strC) [[.string ⟨#[82]⟩]] [⟨#[82]⟩] _ hP rfl trivial ⟨⟨rfl, rfl⟩, trivial⟩ 1 1 rfl (Nat.le_refl _), RdX.nil _ _ _ _, mv_rd hM p (by decide)⟩, rfl⟩, ⟨⟨_, _, _, rfl, RdX.nil _ _ _ _, RdX.nil _ _ _ _, mv_rd hM q (by decide)⟩, rfl⟩, ⟨⟨_, _, _, rfl, RdX.nil _ _ _ _, RdX.nil _ _ _ _, mv_rd hM r (by decide)⟩, rfl⟩, trivial⟩ _ _ rfl (Nat.le_refl _))
        have HBW : Hid (Below w.heap.size w wr) := Lib.hid ((HB1.out.trans (HB8.out.mono HB1.out.size)).trans (HK.out.below (fun z hz => by rw [List.mem_singleton.1 hz]; have := HA0.out; have := HB1.out.size; omega) (by have := HA0.out; have := HB1.out.size; omega)))
        clear rc hM hI hP hR HC HK HM HI HP HR HBB HB8 hzr
        go_wp2_with fail
        refine (New_t (ifcL p q r o false) (some ⟨a + 4, 0, none⟩) 4 anyB wr HRD.out (ifc_sz p q r o false) (fun c hc => (ifc_few p q r o false c hc).1)).mono ?_
        rintro e w9 ⟨tb, mb, vs, rfl, ht9, hb9⟩
        have HT := Lib.hid ht9
        have HB9 := Lib.hid (HBW.out.trans (hb9.mono HBW.out.size))
        have HA := Lib.hid (ifc_ask p q r o false)
        have HMM := Lib.hid (ifc_method p q r o false)
        have HVV := Lib.hid (ifc_virtual p q r o false)
        obtain ⟨K, hK⟩ : ∃ x, keepL (ifcL p q r o false) = x := ⟨_, rfl⟩
        rw [hK] at HT HA HMM HVV
        obtain ⟨ok, hok⟩ : ∃ x, (fun b => wr.heap.size ≤ b) = x := ⟨_, rfl⟩
        rw [hok] at HT
        clear hK hok ht9 hb9 HRD r0 rl
        go_upto_region 19 with fail
        obtain ⟨hat, hbl, -⟩ := allocs_at [.cells #[.string ⟨#[67]⟩, .string ⟨#[80]⟩, .string ⟨#[82]⟩, .string ⟨#[81]⟩] 9, .cells #[.bool o, .bool p, .bool r, .bool q] 4] w9
        obtain ⟨w10, hw10⟩ : ∃ z, z = List.foldl World.alloc w9 [.cells #[.string ⟨#[67]⟩, .string ⟨#[80]⟩, .string ⟨#[82]⟩, .string ⟨#[81]⟩] 9, .cells #[.bool o, .bool p, .bool r, .bool q] 4] := ⟨_, rfl⟩
        rw [← hw10] at hat hbl
        have HO := Lib.hid (hat 0 _ rfl)
        have HH := Lib.hid (hat 1 _ rfl)
        have HB10 := Lib.hid hbl
        simp only [List.foldl_cons, List.foldl_nil] at hw10
        rw [← hw10]
        clear hat hbl hw10
        obtain ⟨d, hd⟩ : ∃ z, w9.heap.size = z := ⟨_, rfl⟩
        rw [hd] at HO HH
        try rw [hd]
        clear hd
        simp only [Nat.add_assoc, Nat.reduceAdd, Nat.add_zero] at HO HH ⊢
        obtain ⟨Ls, hLs⟩ : ∃ z, ifcO p q r o false = z := ⟨_, rfl⟩
        have HNN := Lib.hid (ifc_nm p q r o false)
        have HW := Lib.hid (ifc_w p q r o false)
        have hlen : Ls.length = 4 := by rw [← hLs]; rfl
        have HRR : Hid (ifcR p q r o false = if (o || p || q || r) = true then some (wantL Ls, ifcM) else none) := Lib.hid (by rw [← hLs]; rfl)
        have HCO : Hid (∀ (i : Nat) (x : Bool × ByteArray), Ls[i]? = some x → w10.cell? ⟨d, i, none⟩ = some (.string x.2) ∧ w10.cell? ⟨d + 1, i, none⟩ = some (.bool x.1)) := Lib.hid (fun i x hx => by
          have e1 : (#[.string ⟨#[67]⟩, .string ⟨#[80]⟩, .string ⟨#[82]⟩, .string ⟨#[81]⟩] : Array Value) = (Ls.map (fun x => Value.string x.2)).toArray := by rw [← hLs]; rfl
          have e2 : (#[.bool o, .bool p, .bool r, .bool q] : Array Value) = (Ls.map (fun x => Value.bool x.1)).toArray := by rw [← hLs]; rfl
          have h1 := HO.out
          have h2 := HH.out
          rw [e1] at h1
          rw [e2] at h2
          simp only [World.cell?, h1, h2]
          simp [hx])
        rw [hLs] at HNN HW
        have hol : d < w10.heap.size := (Array.getElem?_eq_some_iff.1 HO.out).1
        have hhl : d + 1 < w10.heap.size := (Array.getElem?_eq_some_iff.1 HH.out).1
        clear hLs HO HH
        go_wp2_with fail
        go_loopw [19, 20] (fun v x W => ∃ i : Nat, v = .string (wantL (Ls.take i)) ∧ x = .int .i64 (i : Int) ∧ i ≤ 4 ∧ W = w10) (fun _ x _ => 4 - (intOf x).toNat)
        case atStart => exact ⟨0, rfl, rfl, by omega, rfl⟩
        case round =>
          obtain ⟨i, rfl, rfl, hi4, hW⟩ := hrel
          have hW' := hW.symm
          subst hW'
          by_cases hlt : i < 4
          · obtain ⟨⟨b, n⟩, hx⟩ : ∃ x, Ls[i]? = some x := ⟨_, List.getElem?_eq_getElem (by omega)⟩
            obtain ⟨c1, c2⟩ := HCO.out i _ hx
            simp only at c1 c2
            have hlt' : (i : Int) < 4 := by omega
            have i0 : (0 : Int) ≤ (i : Int) := by omega
            have htk : Ls.take (i + 1) = Ls.take i ++ [(b, n)] := by
              obtain ⟨h1, h2⟩ := List.getElem?_eq_some_iff.1 hx
              rw [List.take_succ_eq_append_getElem h1, h2]
            have HTK := Lib.hid htk
            have HNT : Hid (∀ x ∈ Ls.take i, x.2 ≠ es) := Lib.hid (fun x hx => HNN.out x (List.mem_of_mem_take hx))
            clear htk hx
            obtain ⟨Y, hY⟩ : ∃ z, wantL (Ls.take i) = z := ⟨_, rfl⟩
            rw [hY]
            have HY := Lib.hid hY
            clear hY
            cases b with
            | false =>
              have HE : Hid (wantL (Ls.take (i + 1)) = Y) := Lib.hid (by rw [HTK.out, wantL_no]; exact HY.out)
              go_wp2_with fail
              go_roundw
              case rel => exact ⟨i + 1, by rw [HE.out], by go_num, by omega, by first | rfl | trivial⟩
              case measure => simp [intOf]; omega
            | true =>
              have HE : Hid (wantL (Ls.take (i + 1)) = if Y = es then n else Y) := Lib.hid (by rw [HTK.out, wantL_yes HNT.out, HY.out])
              by_cases hye : Y = es
              · have hq : (Y.toList == []) = true := by rw [show ([] : List UInt8) = es.toList from by decide +kernel]; exact Go.Proofs.Ytjegocecgncpkaa.txt_eq hye
                have HYE := Lib.hid hye
                clear hye
                go_wp2_with fail
                go_roundw
                case rel => exact ⟨i + 1, by rw [HE.out, if_pos HYE.out], by go_num, by omega, by first | rfl | trivial⟩
                case measure => simp [intOf]; omega
              · have hq : (Y.toList == []) = false := by rw [show ([] : List UInt8) = es.toList from by decide +kernel]; exact Go.Proofs.Ytjegocecgncpkaa.txt_ne hye
                have HYE := Lib.hid hye
                clear hye
                go_wp2_with fail
                go_roundw
                case rel => exact ⟨i + 1, by rw [HE.out, if_neg HYE.out], by go_num, by omega, by first | rfl | trivial⟩
                case measure => simp [intOf]; omega
          · have hlt' : ¬ (i : Int) < 4 := by omega
            obtain rfl : i = 4 := by omega
            rw [List.take_of_length_le (by omega)]
            clear HCO
            obtain ⟨so, hso⟩ : ∃ z, (o || p || q || r) = z := ⟨_, rfl⟩
            obtain ⟨Y, hY⟩ : ∃ z, wantL Ls = z := ⟨_, rfl⟩
            rw [hso, hY] at HW HRR
            rw [hY]
            clear hso hY
            go_wp2_with fail
            refine (Method_m ok tb mb vs K _ _ _ w10 (HT.out.below HB10.out) (sz_small (by decide)) HA.out).mono ?_
            rw [HMM.out, HRR.out]
            rintro e w11 ⟨pp, np, cp, pc, nc, cc, ph, nh, ch, rfl, -, hb11⟩
            cases so with
            | true =>
              have hq : (Y.toList == []) = false := HW.out.1
              simp only [if_true, nmO, mtO, ifcM, Option.isSome]
              obtain ⟨w12, hw12⟩ : ∃ z, z = w11.alloc (.cells #[.string ⟨#[109]⟩, .slice pp np cp, .int .i64 5, .string es, .bool false, .bool true, .int .i64 0, .slice pc nc cc, .slice ph nh ch] 44) := ⟨_, rfl⟩
              have HX12 : Hid (w12.heap[w11.heap.size]? = some (.cells #[.string ⟨#[109]⟩, .slice pp np cp, .int .i64 5, .string es, .bool false, .bool true, .int .i64 0, .slice pc nc cc, .slice ph nh ch] 44 (0, 0))) := Lib.hid (by rw [hw12]; exact heap_alloc_new _ _)
              have HB12 : Hid (Below w9.heap.size w9 w12) := Lib.hid (by rw [hw12]; exact HB10.out.trans ((hb11.trans ((below_alR _ _).mono hb11.size)).mono HB10.out.size))
              go_upto_region 26 with fail
              rw [← hw12]
              clear hw12 hb11
              obtain ⟨xb, hxb⟩ : ∃ z, w11.heap.size = z := ⟨_, rfl⟩
              rw [hxb] at HX12 ⊢
              clear hxb
              go_wp2_with fail
              refine (Virtual_m ok tb mb vs K _ _ _ w12 (HT.out.below HB12.out) (sz_small (by decide)) HA.out).mono ?_
              rw [HVV.out]
              rintro e w13 ⟨vp, vn, vc, up, un, uc, tp, tn, tc, rfl, -, hb13⟩
              simp only [nmO, mtO, noM, Option.isSome]
              obtain ⟨w14, hw14⟩ : ∃ z, z = w13.alloc (.cells #[.string es, .slice vp vn vc, .int .i64 0, .string es, .bool false, .bool false, .int .i64 0, .slice up un uc, .slice tp tn tc] 44) := ⟨_, rfl⟩
              have hb14 : Below w12.heap.size w12 w14 := by rw [hw14]; exact hb13.trans ((below_alR _ _).mono hb13.size)
              have HB14 := Lib.hid (HB12.out.trans (hb14.mono HB12.out.size))
              obtain ⟨yl, yc, -⟩ := boxN ((hb14.block _ (Array.getElem?_eq_some_iff.1 HX12.out).1).trans HX12.out)
              have y5 := yc 5 _ rfl
              simp only [Nat.zero_add] at y5
              clear yc hb13 hb14
              go_upto_region 27 with fail
              rw [← hw14]
              clear hw14
              go_wp2_with fail
              go_ret
              exact ⟨rfl, HB9.out.trans (HB14.out.mono HB9.out.size)⟩
            | false =>
              have hq := HW.out.2 rfl
              subst hq
              simp only [Bool.false_eq_true, if_false, nmO, mtO, noM, es, Option.isSome]
              obtain ⟨w12, hw12⟩ : ∃ z, z = w11.alloc (.cells #[.string ⟨#[]⟩, .slice pp np cp, .int .i64 0, .string ⟨#[]⟩, .bool false, .bool false, .int .i64 0, .slice pc nc cc, .slice ph nh ch] 44) := ⟨_, rfl⟩
              have HX12 : Hid (w12.heap[w11.heap.size]? = some (.cells #[.string ⟨#[]⟩, .slice pp np cp, .int .i64 0, .string ⟨#[]⟩, .bool false, .bool false, .int .i64 0, .slice pc nc cc, .slice ph nh ch] 44 (0, 0))) := Lib.hid (by rw [hw12]; exact heap_alloc_new _ _)
              have HB12 : Hid (Below w9.heap.size w9 w12) := Lib.hid (by rw [hw12]; exact HB10.out.trans ((hb11.trans ((below_alR _ _).mono hb11.size)).mono HB10.out.size))
              go_upto_region 26 with fail
              rw [← hw12]
              clear hw12 hb11
              obtain ⟨xb, hxb⟩ : ∃ z, w11.heap.size = z := ⟨_, rfl⟩
              rw [hxb] at HX12 ⊢
              clear hxb
              go_wp2_with fail
              refine (Virtual_m ok tb mb vs K _ _ _ w12 (HT.out.below HB12.out) (sz_small (by decide)) HA.out).mono ?_
              rw [HVV.out]
              rintro e w13 ⟨vp, vn, vc, up, un, uc, tp, tn, tc, rfl, -, hb13⟩
              simp only [nmO, mtO, noM, Option.isSome]
              obtain ⟨w14, hw14⟩ : ∃ z, z = w13.alloc (.cells #[.string es, .slice vp vn vc, .int .i64 0, .string es, .bool false, .bool false, .int .i64 0, .slice up un uc, .slice tp tn tc] 44) := ⟨_, rfl⟩
              have hb14 : Below w12.heap.size w12 w14 := by rw [hw14]; exact hb13.trans ((below_alR _ _).mono hb13.size)
              have HB14 := Lib.hid (HB12.out.trans (hb14.mono HB12.out.size))
              obtain ⟨yl, yc, -⟩ := boxN ((hb14.block _ (Array.getElem?_eq_some_iff.1 HX12.out).1).trans HX12.out)
              have y5 := yc 5 _ rfl
              simp only [Nat.zero_add] at y5
              clear yc hb13 hb14
              go_upto_region 27 with fail
              rw [← hw14]
              clear hw14
              go_wp2_with fail
              go_ret
              exact ⟨rfl, HB9.out.trans (HB14.out.mono HB9.out.size)⟩
  | true =>
    go_enter Try.func7, Try.ntmps7
    try simp only [List.append_eq, List.cons_append, List.nil_append]
    go_wp2_with fail
    refine (known_9 w).mono ?_
    rintro e w1 ⟨rfl, hb1⟩
    have HB1 := Lib.hid hb1
    clear hb1
    go_upto_region 9 with fail
    obtain ⟨hat, hbl, hsz⟩ := allocs_at [.cells #[.string ⟨#[109]⟩, .slice none 0 0, .int .i64 5, .string ⟨#[]⟩, .bool false, .bool true, .int .i64 0, .slice none 0 0, .slice none 0 0] 44, .cells #[.string ⟨#[80]⟩, .string ⟨#[81]⟩] 9, .cells #[.string ⟨#[67]⟩, .string ⟨#[79, 98, 106, 101, 99, 116]⟩, .slice (some ⟨w1.heap.size + 1 + 1 + 1, 0, none⟩) 2 2, .int .i64 2, .slice none 0 0, .slice none 0 0] 50, .cells #[.string ⟨#[81]⟩, .string ⟨#[80]⟩] 9, .cells #[.string ⟨#[82]⟩] 9, .cells #[.string ⟨#[67]⟩, .string ⟨#[79, 98, 106, 101, 99, 116]⟩, .slice (some ⟨w1.heap.size + 1 + 1 + 1, 0, none⟩) 2 2, .int .i64 2, .slice none 0 0, .slice none 0 0, .string ⟨#[80]⟩, .string ⟨#[79, 98, 106, 101, 99, 116]⟩, .slice (some ⟨w1.heap.size + 1 + 1 + 1 + 1, 0, none⟩) 1 1, .int .i64 4, .slice none 0 0, .slice none 0 0, .string ⟨#[81]⟩, .string ⟨#[79, 98, 106, 101, 99, 116]⟩, .slice none 0 0, .int .i64 4, .slice none 0 0, .slice none 0 0, .string ⟨#[82]⟩, .string ⟨#[79, 98, 106, 101, 99, 116]⟩, .slice none 0 0, .int .i64 4, .slice none 0 0, .slice none 0 0] 50, .cells #[.slice (some ⟨w1.heap.size + 1 + 1 + 1 + 1 + 1, 0, none⟩) 4 4] 28, .cells #[.bool o, .bool p, .bool q, .bool r] 4] w1
    obtain ⟨w8, hw8⟩ : ∃ z, z = List.foldl World.alloc w1 [.cells #[.string ⟨#[109]⟩, .slice none 0 0, .int .i64 5, .string ⟨#[]⟩, .bool false, .bool true, .int .i64 0, .slice none 0 0, .slice none 0 0] 44, .cells #[.string ⟨#[80]⟩, .string ⟨#[81]⟩] 9, .cells #[.string ⟨#[67]⟩, .string ⟨#[79, 98, 106, 101, 99, 116]⟩, .slice (some ⟨w1.heap.size + 1 + 1 + 1, 0, none⟩) 2 2, .int .i64 2, .slice none 0 0, .slice none 0 0] 50, .cells #[.string ⟨#[81]⟩, .string ⟨#[80]⟩] 9, .cells #[.string ⟨#[82]⟩] 9, .cells #[.string ⟨#[67]⟩, .string ⟨#[79, 98, 106, 101, 99, 116]⟩, .slice (some ⟨w1.heap.size + 1 + 1 + 1, 0, none⟩) 2 2, .int .i64 2, .slice none 0 0, .slice none 0 0, .string ⟨#[80]⟩, .string ⟨#[79, 98, 106, 101, 99, 116]⟩, .slice (some ⟨w1.heap.size + 1 + 1 + 1 + 1, 0, none⟩) 1 1, .int .i64 4, .slice none 0 0, .slice none 0 0, .string ⟨#[81]⟩, .string ⟨#[79, 98, 106, 101, 99, 116]⟩, .slice none 0 0, .int .i64 4, .slice none 0 0, .slice none 0 0, .string ⟨#[82]⟩, .string ⟨#[79, 98, 106, 101, 99, 116]⟩, .slice none 0 0, .int .i64 4, .slice none 0 0, .slice none 0 0] 50, .cells #[.slice (some ⟨w1.heap.size + 1 + 1 + 1 + 1 + 1, 0, none⟩) 4 4] 28, .cells #[.bool o, .bool p, .bool q, .bool r] 4] := ⟨_, rfl⟩
    rw [← hw8] at hat hbl hsz
    have HM := Lib.hid (hat 0 _ rfl)
    have HI := Lib.hid (hat 3 _ rfl)
    have HP := Lib.hid (hat 4 _ rfl)
    have HC0 := Lib.hid (hat 5 _ rfl)
    have HR := Lib.hid (hat 6 _ rfl)
    have HBB := Lib.hid (hat 7 _ rfl)
    have HB8 := Lib.hid hbl
    simp only [List.foldl_cons, List.foldl_nil] at hw8
    rw [← hw8]
    clear hat hbl hw8
    simp only [List.length_cons, List.length_nil, Nat.zero_add, Nat.reduceAdd] at hsz
    obtain ⟨a, ha⟩ : ∃ z, w1.heap.size = z := ⟨_, rfl⟩
    rw [ha] at HM HI HP HC0 HR HBB hsz
    try rw [ha]
    have HA0 := Lib.hid ha
    clear ha
    simp only [Nat.add_assoc, Nat.reduceAdd, Nat.add_zero] at HM HI HP HC0 HR HBB ⊢
    have HCI : Hid (w8.heap[a + 5]? = some (.cells (arrI a (a + 3) (a + 4) p q r o 0) 50 (0, 0))) := Lib.hid HC0.out
    clear HC0
    go_loopw [50] (fun v wr => ∃ i : Nat, v = .int .i64 (i : Int) ∧ i ≤ 4 ∧ Hid (wr.heap[a + 5]? = some (.cells (arrI a (a + 3) (a + 4) p q r o i) 50 (0, 0))) ∧ Hid (Kpt [a + 5] w8 wr)) (fun v _ => 4 - (intOf v).toNat)
    case atStart => exact ⟨0, rfl, by omega, HCI, Lib.hid (Kpt.refl _ _)⟩
    case round =>
      clear HCI
      obtain ⟨i, rfl, hi, HC, HK⟩ := hrel
      have hzr := HK.out.size
      have hR : wr.heap[a + 6]? = _ := (HK.out.2 _ (by omega) (by simp)).trans HR.out
      have hBB : wr.heap[a + 7]? = _ := (HK.out.2 _ (by omega) (by simp)).trans HBB.out
      obtain ⟨rl, rc, -⟩ := boxN hR
      have r0 := rc 0 _ rfl
      obtain ⟨kl, kc, -⟩ := boxN hBB
      have k0 := kc 0 _ rfl
      have k1 := kc 1 _ rfl
      have k2 := kc 2 _ rfl
      have k3 := kc 3 _ rfl
      simp only [Nat.zero_add] at r0 k0 k1 k2 k3
      have cl : a + 5 < wr.heap.size := by omega
      clear rc kc hR hBB
      match i, hi with
      | 0, _ =>
        have HCj := HC
        cases o with
        | false =>
          go_wp2_with fail
          go_roundw
          case rel => exact ⟨1, by go_num, by omega, Lib.hid HC.out, HK⟩
          case measure => simp [intOf]
        | true =>
          have c5 : wr.cell? ⟨a + 5, 5, none⟩ = some (.slice none 0 0) := by simp only [World.cell?, HC.out]; rfl
          have z5 : wr.frozen? ⟨a + 5, 5, none⟩ = false := by simp only [World.frozen?, HC.out]; rfl
          have HC2 : Hid ((wr.setCell ⟨a + 5, 5, none⟩ (.slice (some ⟨a, 0, none⟩) 1 1)).heap[a + 5]? = some (.cells (arrI a (a + 3) (a + 4) p q r true 1) 50 (0, 0))) := Lib.hid (by rw [heap_setCell_same _ _ 5 _ _ _ HC.out]; rfl)
          have HK2 : Hid (Kpt [a + 5] w8 (wr.setCell ⟨a + 5, 5, none⟩ (.slice (some ⟨a, 0, none⟩) 1 1))) := Lib.hid (HK.out.trans (Kpt.set [a + 5] _ _ _ _ (by simp)) (fun _ h => .inl h))
          go_wp2_with fail
          go_roundw
          case rel => exact ⟨1, by go_num, by omega, HC2, HK2⟩
          case measure => simp [intOf]
      | 1, _ =>
        have HCj := HC
        cases p with
        | false =>
          go_wp2_with fail
          go_roundw
          case rel => exact ⟨2, by go_num, by omega, Lib.hid HC.out, HK⟩
          case measure => simp [intOf]
        | true =>
          have c5 : wr.cell? ⟨a + 5, 11, none⟩ = some (.slice none 0 0) := by simp only [World.cell?, HC.out]; rfl
          have z5 : wr.frozen? ⟨a + 5, 11, none⟩ = false := by simp only [World.frozen?, HC.out]; rfl
          have HC2 : Hid ((wr.setCell ⟨a + 5, 11, none⟩ (.slice (some ⟨a, 0, none⟩) 1 1)).heap[a + 5]? = some (.cells (arrI a (a + 3) (a + 4) true q r o 2) 50 (0, 0))) := Lib.hid (by rw [heap_setCell_same _ _ 11 _ _ _ HC.out]; rfl)
          have HK2 : Hid (Kpt [a + 5] w8 (wr.setCell ⟨a + 5, 11, none⟩ (.slice (some ⟨a, 0, none⟩) 1 1))) := Lib.hid (HK.out.trans (Kpt.set [a + 5] _ _ _ _ (by simp)) (fun _ h => .inl h))
          go_wp2_with fail
          go_roundw
          case rel => exact ⟨2, by go_num, by omega, HC2, HK2⟩
          case measure => simp [intOf]
      | 2, _ =>
        have HCj := HC
        cases q with
        | false =>
          go_wp2_with fail
          go_roundw
          case rel => exact ⟨3, by go_num, by omega, Lib.hid HC.out, HK⟩
          case measure => simp [intOf]
        | true =>
          have c5 : wr.cell? ⟨a + 5, 17, none⟩ = some (.slice none 0 0) := by simp only [World.cell?, HC.out]; rfl
          have z5 : wr.frozen? ⟨a + 5, 17, none⟩ = false := by simp only [World.frozen?, HC.out]; rfl
          have HC2 : Hid ((wr.setCell ⟨a + 5, 17, none⟩ (.slice (some ⟨a, 0, none⟩) 1 1)).heap[a + 5]? = some (.cells (arrI a (a + 3) (a + 4) p true r o 3) 50 (0, 0))) := Lib.hid (by rw [heap_setCell_same _ _ 17 _ _ _ HC.out]; rfl)
          have HK2 : Hid (Kpt [a + 5] w8 (wr.setCell ⟨a + 5, 17, none⟩ (.slice (some ⟨a, 0, none⟩) 1 1))) := Lib.hid (HK.out.trans (Kpt.set [a + 5] _ _ _ _ (by simp)) (fun _ h => .inl h))
          go_wp2_with fail
          go_roundw
          case rel => exact ⟨3, by go_num, by omega, HC2, HK2⟩
          case measure => simp [intOf]
      | 3, _ =>
        have HCj := HC
        cases r with
        | false =>
          go_wp2_with fail
          go_roundw
          case rel => exact ⟨4, by go_num, by omega, Lib.hid HC.out, HK⟩
          case measure => simp [intOf]
        | true =>
          have c5 : wr.cell? ⟨a + 5, 23, none⟩ = some (.slice none 0 0) := by simp only [World.cell?, HC.out]; rfl
          have z5 : wr.frozen? ⟨a + 5, 23, none⟩ = false := by simp only [World.frozen?, HC.out]; rfl
          have HC2 : Hid ((wr.setCell ⟨a + 5, 23, none⟩ (.slice (some ⟨a, 0, none⟩) 1 1)).heap[a + 5]? = some (.cells (arrI a (a + 3) (a + 4) p q true o 4) 50 (0, 0))) := Lib.hid (by rw [heap_setCell_same _ _ 23 _ _ _ HC.out]; rfl)
          have HK2 : Hid (Kpt [a + 5] w8 (wr.setCell ⟨a + 5, 23, none⟩ (.slice (some ⟨a, 0, none⟩) 1 1))) := Lib.hid (HK.out.trans (Kpt.set [a + 5] _ _ _ _ (by simp)) (fun _ h => .inl h))
          go_wp2_with fail
          go_roundw
          case rel => exact ⟨4, by go_num, by omega, HC2, HK2⟩
          case measure => simp [intOf]
      | 4, _ =>
        clear r0 k0 k1 k2 k3 rl kl cl
        have hM : wr.heap[a]? = _ := (HK.out.2 _ (by omega) (by simp)).trans HM.out
        have hI : wr.heap[a + 3]? = _ := (HK.out.2 _ (by omega) (by simp)).trans HI.out
        have hP : wr.heap[a + 4]? = _ := (HK.out.2 _ (by omega) (by simp)).trans HP.out
        have hR : wr.heap[a + 6]? = _ := (HK.out.2 _ (by omega) (by simp)).trans HR.out
        obtain ⟨rl, rc, -⟩ := boxN hR
        have r0 := rc 0 _ rfl
        simp only [Nat.zero_add] at r0
        have HRD : Hid (RdX 6 cP anyB wr (.slice (some ⟨a + 5, 0, none⟩) (ifcL p q r o true).length 4) (ifcL p q r o true)) := Lib.hid (rd_block (P := cP) (lsI a (a + 3) (a + 4) p q r o 4) (ifcL p q r o true) _ HC.out rfl trivial ⟨⟨⟨_, _, _, rfl, rd_block (P := sP strC) [[.string ⟨#[81]⟩], [.string ⟨#[80]⟩]] (ifcI true) _ hI rfl trivial ⟨⟨rfl, rfl⟩, ⟨rfl, rfl⟩, trivial⟩ 2 2 rfl (Nat.le_refl _), RdX.nil _ _ _ _, mv_rd hM o (by decide)⟩, rfl⟩,
          ⟨⟨_, _, _, rfl, rd_block (P := sP strC) [[.string ⟨#[82]⟩]] [⟨#[82]⟩] _ hP rfl trivial ⟨⟨rfl, rfl⟩, trivial⟩ 1 1 rfl (Nat.le_refl _), RdX.nil _ _ _ _, mv_rd hM p (by decide)⟩, rfl⟩, ⟨⟨_, _, _, rfl, RdX.nil _ _ _ _, RdX.nil _ _ _ _, mv_rd hM q (by decide)⟩, rfl⟩, ⟨⟨_, _, _, rfl, RdX.nil _ _ _ _, RdX.nil _ _ _ _, mv_rd hM r (by decide)⟩, rfl⟩, trivial⟩ _ _ rfl (Nat.le_refl _))
        have HBW : Hid (Below w.heap.size w wr) := Lib.hid ((HB1.out.trans (HB8.out.mono HB1.out.size)).trans (HK.out.below (fun z hz => by rw [List.mem_singleton.1 hz]; have := HA0.out; have := HB1.out.size; omega) (by have := HA0.out; have := HB1.out.size; omega)))
        clear rc hM hI hP hR HC HK HM HI HP HR HBB HB8 hzr
        go_wp2_with fail
        refine (New_t (ifcL p q r o true) (some ⟨a + 5, 0, none⟩) 4 anyB wr HRD.out (ifc_sz p q r o true) (fun c hc => (ifc_few p q r o true c hc).1)).mono ?_
        rintro e w9 ⟨tb, mb, vs, rfl, ht9, hb9⟩
        have HT := Lib.hid ht9
        have HB9 := Lib.hid (HBW.out.trans (hb9.mono HBW.out.size))
        have HA := Lib.hid (ifc_ask p q r o true)
        have HMM := Lib.hid (ifc_method p q r o true)
        have HVV := Lib.hid (ifc_virtual p q r o true)
        obtain ⟨K, hK⟩ : ∃ x, keepL (ifcL p q r o true) = x := ⟨_, rfl⟩
        rw [hK] at HT HA HMM HVV
        obtain ⟨ok, hok⟩ : ∃ x, (fun b => wr.heap.size ≤ b) = x := ⟨_, rfl⟩
        rw [hok] at HT
        clear hK hok ht9 hb9 HRD r0 rl
        go_upto_region 19 with fail
        obtain ⟨hat, hbl, -⟩ := allocs_at [.cells #[.string ⟨#[67]⟩, .string ⟨#[80]⟩, .string ⟨#[82]⟩, .string ⟨#[81]⟩] 9, .cells #[.bool o, .bool p, .bool r, .bool q] 4, .cells #[.string ⟨#[67]⟩, .string ⟨#[81]⟩, .string ⟨#[80]⟩, .string ⟨#[82]⟩] 9, .cells #[.bool o, .bool q, .bool p, .bool r] 4] w9
        obtain ⟨w10, hw10⟩ : ∃ z, z = List.foldl World.alloc w9 [.cells #[.string ⟨#[67]⟩, .string ⟨#[80]⟩, .string ⟨#[82]⟩, .string ⟨#[81]⟩] 9, .cells #[.bool o, .bool p, .bool r, .bool q] 4, .cells #[.string ⟨#[67]⟩, .string ⟨#[81]⟩, .string ⟨#[80]⟩, .string ⟨#[82]⟩] 9, .cells #[.bool o, .bool q, .bool p, .bool r] 4] := ⟨_, rfl⟩
        rw [← hw10] at hat hbl
        have HO := Lib.hid (hat 2 _ rfl)
        have HH := Lib.hid (hat 3 _ rfl)
        have HB10 := Lib.hid hbl
        simp only [List.foldl_cons, List.foldl_nil] at hw10
        rw [← hw10]
        clear hat hbl hw10
        obtain ⟨d, hd⟩ : ∃ z, w9.heap.size = z := ⟨_, rfl⟩
        rw [hd] at HO HH
        try rw [hd]
        clear hd
        simp only [Nat.add_assoc, Nat.reduceAdd, Nat.add_zero] at HO HH ⊢
        obtain ⟨Ls, hLs⟩ : ∃ z, ifcO p q r o true = z := ⟨_, rfl⟩
        have HNN := Lib.hid (ifc_nm p q r o true)
        have HW := Lib.hid (ifc_w p q r o true)
        have hlen : Ls.length = 4 := by rw [← hLs]; rfl
        have HRR : Hid (ifcR p q r o true = if (o || p || q || r) = true then some (wantL Ls, ifcM) else none) := Lib.hid (by rw [← hLs]; rfl)
        have HCO : Hid (∀ (i : Nat) (x : Bool × ByteArray), Ls[i]? = some x → w10.cell? ⟨d + 2, i, none⟩ = some (.string x.2) ∧ w10.cell? ⟨d + 3, i, none⟩ = some (.bool x.1)) := Lib.hid (fun i x hx => by
          have e1 : (#[.string ⟨#[67]⟩, .string ⟨#[81]⟩, .string ⟨#[80]⟩, .string ⟨#[82]⟩] : Array Value) = (Ls.map (fun x => Value.string x.2)).toArray := by rw [← hLs]; rfl
          have e2 : (#[.bool o, .bool q, .bool p, .bool r] : Array Value) = (Ls.map (fun x => Value.bool x.1)).toArray := by rw [← hLs]; rfl
          have h1 := HO.out
          have h2 := HH.out
          rw [e1] at h1
          rw [e2] at h2
          simp only [World.cell?, h1, h2]
          simp [hx])
        rw [hLs] at HNN HW
        have hol : d + 2 < w10.heap.size := (Array.getElem?_eq_some_iff.1 HO.out).1
        have hhl : d + 3 < w10.heap.size := (Array.getElem?_eq_some_iff.1 HH.out).1
        clear hLs HO HH
        go_wp2_with fail
        go_loopw [19, 20] (fun v x W => ∃ i : Nat, v = .string (wantL (Ls.take i)) ∧ x = .int .i64 (i : Int) ∧ i ≤ 4 ∧ W = w10) (fun _ x _ => 4 - (intOf x).toNat)
        case atStart => exact ⟨0, rfl, rfl, by omega, rfl⟩
        case round =>
          obtain ⟨i, rfl, rfl, hi4, hW⟩ := hrel
          have hW' := hW.symm
          subst hW'
          by_cases hlt : i < 4
          · obtain ⟨⟨b, n⟩, hx⟩ : ∃ x, Ls[i]? = some x := ⟨_, List.getElem?_eq_getElem (by omega)⟩
            obtain ⟨c1, c2⟩ := HCO.out i _ hx
            simp only at c1 c2
            have hlt' : (i : Int) < 4 := by omega
            have i0 : (0 : Int) ≤ (i : Int) := by omega
            have htk : Ls.take (i + 1) = Ls.take i ++ [(b, n)] := by
              obtain ⟨h1, h2⟩ := List.getElem?_eq_some_iff.1 hx
              rw [List.take_succ_eq_append_getElem h1, h2]
            have HTK := Lib.hid htk
            have HNT : Hid (∀ x ∈ Ls.take i, x.2 ≠ es) := Lib.hid (fun x hx => HNN.out x (List.mem_of_mem_take hx))
            clear htk hx
            obtain ⟨Y, hY⟩ : ∃ z, wantL (Ls.take i) = z := ⟨_, rfl⟩
            rw [hY]
            have HY := Lib.hid hY
            clear hY
            cases b with
            | false =>
              have HE : Hid (wantL (Ls.take (i + 1)) = Y) := Lib.hid (by rw [HTK.out, wantL_no]; exact HY.out)
              go_wp2_with fail
              go_roundw
              case rel => exact ⟨i + 1, by rw [HE.out], by go_num, by omega, by first | rfl | trivial⟩
              case measure => simp [intOf]; omega
            | true =>
              have HE : Hid (wantL (Ls.take (i + 1)) = if Y = es then n else Y) := Lib.hid (by rw [HTK.out, wantL_yes HNT.out, HY.out])
              by_cases hye : Y = es
              · have hq : (Y.toList == []) = true := by rw [show ([] : List UInt8) = es.toList from by decide +kernel]; exact Go.Proofs.Ytjegocecgncpkaa.txt_eq hye
                have HYE := Lib.hid hye
                clear hye
                go_wp2_with fail
                go_roundw
                case rel => exact ⟨i + 1, by rw [HE.out, if_pos HYE.out], by go_num, by omega, by first | rfl | trivial⟩
                case measure => simp [intOf]; omega
              · have hq : (Y.toList == []) = false := by rw [show ([] : List UInt8) = es.toList from by decide +kernel]; exact Go.Proofs.Ytjegocecgncpkaa.txt_ne hye
                have HYE := Lib.hid hye
                clear hye
                go_wp2_with fail
                go_roundw
                case rel => exact ⟨i + 1, by rw [HE.out, if_neg HYE.out], by go_num, by omega, by first | rfl | trivial⟩
                case measure => simp [intOf]; omega
          · have hlt' : ¬ (i : Int) < 4 := by omega
            obtain rfl : i = 4 := by omega
            rw [List.take_of_length_le (by omega)]
            clear HCO
            obtain ⟨so, hso⟩ : ∃ z, (o || p || q || r) = z := ⟨_, rfl⟩
            obtain ⟨Y, hY⟩ : ∃ z, wantL Ls = z := ⟨_, rfl⟩
            rw [hso, hY] at HW HRR
            rw [hY]
            clear hso hY
            go_wp2_with fail
            refine (Method_m ok tb mb vs K _ _ _ w10 (HT.out.below HB10.out) (sz_small (by decide)) HA.out).mono ?_
            rw [HMM.out, HRR.out]
            rintro e w11 ⟨pp, np, cp, pc, nc, cc, ph, nh, ch, rfl, -, hb11⟩
            cases so with
            | true =>
              have hq : (Y.toList == []) = false := HW.out.1
              simp only [if_true, nmO, mtO, ifcM, Option.isSome]
              obtain ⟨w12, hw12⟩ : ∃ z, z = w11.alloc (.cells #[.string ⟨#[109]⟩, .slice pp np cp, .int .i64 5, .string es, .bool false, .bool true, .int .i64 0, .slice pc nc cc, .slice ph nh ch] 44) := ⟨_, rfl⟩
              have HX12 : Hid (w12.heap[w11.heap.size]? = some (.cells #[.string ⟨#[109]⟩, .slice pp np cp, .int .i64 5, .string es, .bool false, .bool true, .int .i64 0, .slice pc nc cc, .slice ph nh ch] 44 (0, 0))) := Lib.hid (by rw [hw12]; exact heap_alloc_new _ _)
              have HB12 : Hid (Below w9.heap.size w9 w12) := Lib.hid (by rw [hw12]; exact HB10.out.trans ((hb11.trans ((below_alR _ _).mono hb11.size)).mono HB10.out.size))
              go_upto_region 26 with fail
              rw [← hw12]
              clear hw12 hb11
              obtain ⟨xb, hxb⟩ : ∃ z, w11.heap.size = z := ⟨_, rfl⟩
              rw [hxb] at HX12 ⊢
              clear hxb
              go_wp2_with fail
              refine (Virtual_m ok tb mb vs K _ _ _ w12 (HT.out.below HB12.out) (sz_small (by decide)) HA.out).mono ?_
              rw [HVV.out]
              rintro e w13 ⟨vp, vn, vc, up, un, uc, tp, tn, tc, rfl, -, hb13⟩
              simp only [nmO, mtO, noM, Option.isSome]
              obtain ⟨w14, hw14⟩ : ∃ z, z = w13.alloc (.cells #[.string es, .slice vp vn vc, .int .i64 0, .string es, .bool false, .bool false, .int .i64 0, .slice up un uc, .slice tp tn tc] 44) := ⟨_, rfl⟩
              have hb14 : Below w12.heap.size w12 w14 := by rw [hw14]; exact hb13.trans ((below_alR _ _).mono hb13.size)
              have HB14 := Lib.hid (HB12.out.trans (hb14.mono HB12.out.size))
              obtain ⟨yl, yc, -⟩ := boxN ((hb14.block _ (Array.getElem?_eq_some_iff.1 HX12.out).1).trans HX12.out)
              have y5 := yc 5 _ rfl
              simp only [Nat.zero_add] at y5
              clear yc hb13 hb14
              go_upto_region 27 with fail
              rw [← hw14]
              clear hw14
              go_wp2_with fail
              go_ret
              exact ⟨rfl, HB9.out.trans (HB14.out.mono HB9.out.size)⟩
            | false =>
              have hq := HW.out.2 rfl
              subst hq
              simp only [Bool.false_eq_true, if_false, nmO, mtO, noM, es, Option.isSome]
              obtain ⟨w12, hw12⟩ : ∃ z, z = w11.alloc (.cells #[.string ⟨#[]⟩, .slice pp np cp, .int .i64 0, .string ⟨#[]⟩, .bool false, .bool false, .int .i64 0, .slice pc nc cc, .slice ph nh ch] 44) := ⟨_, rfl⟩
              have HX12 : Hid (w12.heap[w11.heap.size]? = some (.cells #[.string ⟨#[]⟩, .slice pp np cp, .int .i64 0, .string ⟨#[]⟩, .bool false, .bool false, .int .i64 0, .slice pc nc cc, .slice ph nh ch] 44 (0, 0))) := Lib.hid (by rw [hw12]; exact heap_alloc_new _ _)
              have HB12 : Hid (Below w9.heap.size w9 w12) := Lib.hid (by rw [hw12]; exact HB10.out.trans ((hb11.trans ((below_alR _ _).mono hb11.size)).mono HB10.out.size))
              go_upto_region 26 with fail
              rw [← hw12]
              clear hw12 hb11
              obtain ⟨xb, hxb⟩ : ∃ z, w11.heap.size = z := ⟨_, rfl⟩
              rw [hxb] at HX12 ⊢
              clear hxb
              go_wp2_with fail
              refine (Virtual_m ok tb mb vs K _ _ _ w12 (HT.out.below HB12.out) (sz_small (by decide)) HA.out).mono ?_
              rw [HVV.out]
              rintro e w13 ⟨vp, vn, vc, up, un, uc, tp, tn, tc, rfl, -, hb13⟩
              simp only [nmO, mtO, noM, Option.isSome]
              obtain ⟨w14, hw14⟩ : ∃ z, z = w13.alloc (.cells #[.string es, .slice vp vn vc, .int .i64 0, .string es, .bool false, .bool false, .int .i64 0, .slice up un uc, .slice tp tn tc] 44) := ⟨_, rfl⟩
              have hb14 : Below w12.heap.size w12 w14 := by rw [hw14]; exact hb13.trans ((below_alR _ _).mono hb13.size)
              have HB14 := Lib.hid (HB12.out.trans (hb14.mono HB12.out.size))
              obtain ⟨yl, yc, -⟩ := boxN ((hb14.block _ (Array.getElem?_eq_some_iff.1 HX12.out).1).trans HX12.out)
              have y5 := yc 5 _ rfl
              simp only [Nat.zero_add] at y5
              clear yc hb13 hb14
              go_upto_region 27 with fail
              rw [← hw14]
              clear hw14
              go_wp2_with fail
              go_ret
              exact ⟨rfl, HB9.out.trans (HB14.out.mono HB9.out.size)⟩
end Go.Proofs.Ytjegocecgncpkaa.R
