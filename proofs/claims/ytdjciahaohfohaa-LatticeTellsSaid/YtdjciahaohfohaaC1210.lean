/- Texts that the proof is made of, joined. No condition. -/
import Derived.Test.YtdjciahaohfohaaC129
import Derived.Test.YtdjciahaohfohaaC128
import Derived.Test.YtdjciahaohfohaaC125
import Derived.Deep.DeepCutAuto
import Derived.Deep.CutBlock
import Derived.Test.YtdjciahaohfohaaC121
import Derived.Test.YtdjciahaohfohaaC12H
set_option linter.unusedVariables false
set_option linter.unusedSimpArgs false
set_option maxRecDepth 100000
set_option maxHeartbeats 16000000
namespace Go.Proofs.Ytdjciahaohfohaa.R
open Go.RowKit Go.Proofs.Ytdjciahaohfohaa.D Go.Proofs.Ytdjciahaohfohaa.O Go.Proofs.Ytdjciahaohfohaa.A
theorem tyv_pair (a : Ty) : tyv a = .agg #[.int .i64 a.1, .string a.2] := rfl
theorem allT_len {T : List Sk} : ∀ {a b : List Ty}, a.length = b.length → (allT T a b).length = a.length
  | [], [], _ => rfl
  | x :: a, y :: b, h => by
    show (joinT T x y :: allT T a b).length = _
    rw [List.length_cons, List.length_cons, allT_len (by simpa using h)]
theorem allT_at {T : List Sk} : ∀ {a b : List Ty} {i : Nat} {x y : Ty}, a[i]? = some x → b[i]? = some y → (allT T a b)[i]? = some (joinT T x y)
  | [], _, _, _, _, h, _ => by simp at h
  | _ :: _, [], _, _, _, _, h => by simp at h
  | x :: a, y :: b, 0, _, _, h1, h2 => by
    simp only [List.getElem?_cons_zero, Option.some.injEq] at h1 h2
    subst h1
    subst h2
    rfl
  | x :: a, y :: b, i + 1, _, _, h1, h2 => by
    show (joinT T x y :: allT T a b)[i + 1]? = _
    rw [List.getElem?_cons_succ]
    exact allT_at (by simpa using h1) (by simpa using h2)
theorem fill_at {α : Type} {J Z : List α} {i : Nat} {z : α} (hl : J.length = Z.length) (hi : Z[i]? = some z) : (J.take i ++ Z.drop i)[i]? = some z := by
  have := (List.getElem?_eq_some_iff.1 hi).1
  rw [List.getElem?_append_right (by rw [List.length_take]; omega), List.length_take, show i - min i J.length = 0 by omega, List.getElem?_drop]
  simpa using hi
theorem fill_set {α : Type} {J Z : List α} {i : Nat} {y : α} (hl : J.length = Z.length) (hi : J[i]? = some y) : (J.take i ++ Z.drop i).set i y = J.take (i + 1) ++ Z.drop (i + 1) := by
  have hil := (List.getElem?_eq_some_iff.1 hi).1
  rw [List.set_append_right i y (by rw [List.length_take]; omega), List.length_take, show i - min i J.length = 0 by omega, List.take_add_one, hi, List.append_assoc, List.drop_eq_getElem_cons (by omega : i < Z.length)]
  rfl
theorem wp_mkT {w : World} {ops : Array Oper} {rest : List Oper} {o : Oper} {a : Act} {Q : Exit → Act → World → Prop} (hgd : o.guard = none) (s x : Operand)
    (ho : o.op = Op.makeSlice 37 s x)
    (B : Nat) (L C : Int) (n : Nat) (hs : a.eval s = .int .i64 L) (hx : a.eval x = .int .i64 C) (hL : L = (n : Int)) (hC : C = (n : Int)) (hn : n ≤ 100000) (hbase : B ≤ w.heap.size)
    (h : ∀ w', OwnX 2 24 (sP tyC) w' B (.slice (some ⟨w.heap.size, 0, none⟩) n n) (List.replicate n ((0, ⟨#[]⟩) : Ty)) → Below w.heap.size w w' → wpList Try.prog ops Q rest (a.put o.dst (.slice (some ⟨w.heap.size, 0, none⟩) n n)) w') :
    wpList Try.prog ops Q (o :: rest) a w := by
  obtain ⟨hi1, hu, hz, -, hbb⟩ := inf_typ
  obtain ⟨i0, hi, hz0, hz1, hz2⟩ := info_parts hi1
  refine wpList_make_full w hgd s x _ ho B 24 i0 _ 2 hu hi hz0 hz1 .i64 .i64 L C n hs hx hL hC (by
    have : i0.bytes * n ≤ 1000 * 100000 := Nat.mul_le_mul (by omega) hn
    omega) (by unfold maxLen; omega) hbase ?_
  intro w' hw hg
  refine h w' ⟨_, by rw [List.length_replicate]; exact hw, fun i y hy => ?_⟩ (Kpt.below (Kpt.of_grown (S := []) hg (fun g h => by cases h)) (by simp) (Nat.le_refl _))
  have hin : i < n := by have := (List.getElem?_eq_some_iff.1 hy).1; rwa [List.length_replicate] at this
  rw [List.getElem?_replicate, if_pos hin] at hy
  obtain rfl : (0, ⟨#[]⟩) = y := Option.some.inj hy
  show _ = tyC _
  have h2 : (madeCells (Value.agg #[.int .i64 0, .string ⟨#[]⟩]).cells (n * 2)).toList.length = n * 2 := by rw [Array.length_toList, size_madeCells]
  have hat : ∀ j, j < n * 2 → (madeCells (Value.agg #[.int .i64 0, .string ⟨#[]⟩]).cells (n * 2)).toList[j]? = some ((#[.int .i64 0, .string ⟨#[]⟩] : Array Value)[j % 2]!) := by
    intro j hj
    rw [Array.getElem?_toList]
    unfold madeCells
    rw [Array.getElem?_map, Array.getElem?_range, if_pos hj]
    rfl
  refine List.ext_getElem? (fun j => ?_)
  by_cases hj : j < 2
  · rw [List.getElem?_take_of_lt hj, List.getElem?_drop, hat _ (by omega)]
    rcases (by omega : j = 0 ∨ j = 1) with rfl | rfl
    · rw [show (i * 2 + 0) % 2 = 0 by omega]; rfl
    · rw [show (i * 2 + 1) % 2 = 1 by omega]; rfl
  · rw [List.getElem?_eq_none (by rw [List.length_take]; omega), List.getElem?_eq_none (by show 2 ≤ j; omega)]
theorem own_put2 {T : TypeId} {w : World} {B : Nat} {v : Value} {xs : List Ty} (h : OwnX 2 T (sP tyC) w B v xs) {i : Nat} {x : Ty} (hi : xs[i]? = some x) (y : Ty) :
    ∃ g cap, v = .slice (some ⟨g, 0, none⟩) xs.length cap ∧ xs.length ≤ cap ∧ B ≤ g ∧ g < w.heap.size ∧ (∀ k, w.frozen? ⟨g, k, none⟩ = false) ∧ (∀ k u', (tyC x)[k]? = some u' → w.cell? ⟨g, i * 2 + k, none⟩ = some u') ∧
      OwnX 2 T (sP tyC) ((w.setCell ⟨g, i * 2, none⟩ (.int .i64 y.1)).setCell ⟨g, i * 2 + 1, none⟩ (.string y.2)) B v (xs.set i y) := by
  obtain ⟨x0, x1⟩ := x
  obtain ⟨y0, y1⟩ := y
  have hil := (List.getElem?_eq_some_iff.1 hi).1
  obtain ⟨g, cap, e, hle, hB, hg, hf, hc, h1⟩ := h.put1 (j := 0) (y := (y0, x1)) (u := .int .i64 y0) hi (by decide) rfl
  obtain ⟨g2, cap2, e2, -, -, -, -, -, h2⟩ := h1.put1 (i := i) (j := 1) (y := (y0, y1)) (u := .string y1) (List.getElem?_set_self hil) (by decide) rfl
  rw [e] at e2
  simp only [Value.slice.injEq, Option.some.injEq, Addr.mk.injEq, and_true] at e2
  obtain ⟨rfl, -, -⟩ := e2
  rw [List.set_set] at h2
  exact ⟨g, cap, e, hle, hB, hg, hf, hc, h2⟩
theorem cells2_kpt {W W' : World} {g r o : Nat} {vs : List Value} (h : CellsAt W g o vs) (hg : g < W.heap.size) (hk : Kpt [r] W W') (hne : g ≠ r) : CellsAt W' g o vs := fun j u hu => by
  have e := hk.2 g hg (by simpa using hne)
  rw [← h j u hu]
  simp only [World.cell?, e]
set_option maxHeartbeats 4000000 in
set_option maxRecDepth 100000 in
theorem All_n (ok ok1 ok2 : Nat → Prop) (vt : Value) (K : List Cls) (va vb : Value) (a b : List Ty) (w : World) (h : TrN w ok vt K) (hra : RdX 2 (sP tyC) ok1 w va a) (hrb : RdX 2 (sP tyC) ok2 w vb b) (hza : ∀ t ∈ a, t.2.size ≤ maxLen) (hzb : ∀ t ∈ b, t.2.size ≤ maxLen) (hla : a.length ≤ 100000) :
    Calls Try.prog 18 #[vt, va, vb] w fun e w' => ∃ v, e = .returned (.tuple #[v, .bool (decide (a.length = b.length))]) ∧ OwnX 2 24 (sP tyC) w' w.heap.size v (if a.length = b.length then allT (K.map skOf) a b else []) ∧ Below w.heap.size w w' := by
  obtain ⟨pa, ca, rfl, hca⟩ := hra.len
  obtain ⟨pb, cb, rfl, hcb⟩ := hrb.len
  by_cases hl : a.length = b.length
  · rw [decide_eq_true hl, if_pos hl]
    obtain ⟨n, hn⟩ : ∃ n, a.length = n := ⟨_, rfl⟩
    rw [← hl] at hrb hcb ⊢
    have HJL := Lib.hid ((allT_len (T := K.map skOf) hl).trans hn)
    have HLA := Lib.hid hn
    have HLB := Lib.hid (hl.symm.trans hn)
    have HRA := Lib.hid hra
    have HRB := Lib.hid hrb
    have HZA := Lib.hid hza
    have HZB := Lib.hid hzb
    have HT := Lib.hid h
    rw [hn] at HRA HRB hla ⊢
    clear hca hcb hl hn hra hrb hza hzb h
    obtain ⟨J, hJ⟩ : ∃ J, allT (K.map skOf) a b = J := ⟨_, rfl⟩
    have HJ := Lib.hid hJ
    rw [hJ] at HJL ⊢
    clear hJ
    go_enter Try.func18, Try.ntmps18
    go_wp2_with (at_make; refine wp_mkT rfl _ _ rfl w.heap.size _ _ n rfl rfl ?c1 ?c2 ?c3 ?c4 ?_)
    case c1 => rfl
    case c2 => rfl
    case c3 => exact hla
    case c4 => exact Nat.le_refl _
    intro w1 ho hb1
    have HO := Lib.hid ho
    have HB := Lib.hid hb1
    clear ho hb1
    obtain ⟨g, hg⟩ : ∃ z, w.heap.size = z := ⟨_, rfl⟩
    have HG : Hid (w.heap.size ≤ g) := Lib.hid (by omega)
    rw [show (Value.slice (some ⟨w.heap.size, 0, none⟩) n n) = .slice (some ⟨g, 0, none⟩) n n by rw [hg]] at HO
    rw [hg]
    clear hg
    go_wp2_with fail
    go_loopw [20] (fun v wr => ∃ i : Nat, v = .int .i64 (i : Int) ∧ i ≤ n ∧ Hid (OwnX 2 24 (sP tyC) wr w.heap.size (.slice (some ⟨g, 0, none⟩) n n) (J.take i ++ (List.replicate n ((0, ⟨#[]⟩) : Ty)).drop i)) ∧ Hid (Below w.heap.size w wr)) (fun x _ => n - (intOf x).toNat)
    case atStart => exact ⟨0, rfl, by omega, HO, HB⟩
    case round =>
      clear HO HB
      obtain ⟨i, rfl, hin, HO, HB⟩ := hrel
      by_cases hlt : i < n
      · have hlt' : (i : Int) < (n : Int) := by omega
        obtain ⟨x, hx⟩ : ∃ x, a[i]? = some x := ⟨_, List.getElem?_eq_getElem (by have := HLA.out; omega)⟩
        obtain ⟨y, hy⟩ : ∃ y, b[i]? = some y := ⟨_, List.getElem?_eq_getElem (by have := HLB.out; omega)⟩
        have zx := Lib.hid (HZA.out x (List.mem_of_getElem? hx))
        have zy := Lib.hid (HZB.out y (List.mem_of_getElem? hy))
        have hj := allT_at (T := K.map skOf) hx hy
        rw [HJ.out] at hj
        have hZ : J.length = (List.replicate n ((0, ⟨#[]⟩) : Ty)).length := by rw [List.length_replicate]; exact HJL.out
        have HAT := Lib.hid (fill_at (i := i) (z := ((0, ⟨#[]⟩) : Ty)) hZ (by rw [List.getElem?_replicate, if_pos hlt]))
        have HJS := Lib.hid (fill_set hZ hj)
        obtain ⟨ba, oa, rfl, -, -, -, hga, hcca⟩ := (HRA.out.any (sP.grow _) HB.out).place (fun e => by rw [e] at hx; simp at hx)
        obtain ⟨bb, ob, rfl, -, -, -, hgc, hccb⟩ := (HRB.out.any (sP.grow _) HB.out).place (fun e => by rw [e] at hy; simp at hy)
        have HCA := Lib.hid (sP_at (hcca i x hx))
        have HCC := Lib.hid (sP_at (hccb i y hy))
        have hga0 : ba < w.heap.size := by obtain ⟨_, _, e, _, _, _, h, _⟩ := HRA.out.place (fun e => by rw [e] at hx; simp at hx); cases e; exact h
        have hgb0 : bb < w.heap.size := by obtain ⟨_, _, e, _, _, _, h, _⟩ := HRB.out.place (fun e => by rw [e] at hy; simp at hy); cases e; exact h
        have HNA : Hid (ba ≠ g) := Lib.hid (by have := HG.out; omega)
        have HNC : Hid (bb ≠ g) := Lib.hid (by have := HG.out; omega)
        have HGA := Lib.hid hga
        have HGC := Lib.hid hgc
        clear hga0 hgb0 hga hgc hcca hccb hx hy hj hZ
        go_upto_region 7 with fail
        replace HO : Hid (OwnX 2 24 (sP tyC) wr.drew _ _ _) := Lib.hid HO.out
        replace HB := Lib.hid HB.out.drew
        replace HCA : Hid (CellsAt wr.drew _ _ _) := Lib.hid HCA.out
        replace HCC : Hid (CellsAt wr.drew _ _ _) := Lib.hid HCC.out
        replace HGA : Hid (ba < wr.drew.heap.size) := Lib.hid HGA.out
        replace HGC : Hid (bb < wr.drew.heap.size) := Lib.hid HGC.out
        refine wp_region_held_drew (S := fun W => (W.cell? ⟨ba, oa + i * 2, none⟩ = some (.int .i64 x.1) ∧ W.cell? ⟨ba, oa + i * 2 + 1, none⟩ = some (.string x.2)) ∧ (W.cell? ⟨bb, ob + i * 2, none⟩ = some (.int .i64 y.1) ∧ W.cell? ⟨bb, ob + i * 2 + 1, none⟩ = some (.string y.2))) (by kernel_rfl) (by first | exact ⟨HCA.out.two, HCC.out.two⟩ | exact ⟨(cells2_kpt HCA.out HGA.out (set2_kpt _ _ _ _ _ _) HNA.out).two, (cells2_kpt HCC.out HGC.out (set2_kpt _ _ _ _ _ _) HNC.out).two⟩) (fun hHeld => ?_)
        refine wpAnyH_take (i := 0) (oi := _) (v := ?_) (by simp only [List.getElem?_toArray, List.getElem?_cons_zero]; rfl) (by kernel_rfl) (by kernel_rfl) (by kernel_rfl) (by intro _ _ _ h; exact h) (Or.inl ⟨by rfl, fun W hSw => ?_⟩) hHeld ?_
        rotate_left 1
        · (clear hSw; first | (go_simp; done) | (go_simp; with_reducible rfl))
        try go_frame
        refine wpAnyH_take (i := 1) (oi := _) (v := ?_) (by simp only [List.getElem?_toArray, List.getElem?_cons_succ, List.getElem?_cons_zero]; rfl) (by kernel_rfl) (by kernel_rfl) (by kernel_rfl) (by intro _ _ _ h; exact h) (Or.inl ⟨by rfl, fun W hSw => ?_⟩) hHeld ?_
        rotate_left 1
        · (clear hSw; first | (go_simp; done) | (go_simp; with_reducible rfl))
        try go_frame
        refine wpAnyH_take (i := 2) (oi := _) (v := ?_) (by simp only [List.getElem?_toArray, List.getElem?_cons_succ, List.getElem?_cons_zero]; rfl) (by kernel_rfl) (by kernel_rfl) (by kernel_rfl) (by intro _ _ _ h; exact h) (Or.inl ⟨by rfl, fun W hSw => ?_⟩) hHeld ?_
        rotate_left 1
        · (clear hSw; first | (go_simp; done) | (go_simp; with_reducible rfl))
        try go_frame
        refine wpAnyH_take (i := 3) (oi := _) (v := ?_) (by simp only [List.getElem?_toArray, List.getElem?_cons_succ, List.getElem?_cons_zero]; rfl) (by kernel_rfl) (by kernel_rfl) (by kernel_rfl) (by intro _ _ _ h; exact h) (Or.inl ⟨by rfl, fun W hSw => ?_⟩) hHeld ?_
        rotate_left 1
        · (clear hSw; first | (go_simp; done) | (go_simp; with_reducible rfl))
        try go_frame
        refine wpAnyH_take (i := 4) (oi := _) (v := ?_) (by simp only [List.getElem?_toArray, List.getElem?_cons_succ, List.getElem?_cons_zero]; rfl) (by kernel_rfl) (by kernel_rfl) (by kernel_rfl) (by intro _ _ _ h; exact h) (Or.inl ⟨by rfl, fun W hSw => ?_⟩) hHeld ?_
        rotate_left 1
        · (clear hSw; first | (go_simp; done) | (go_simp; with_reducible rfl))
        try go_frame
        refine wpAnyH_take (i := 5) (oi := _) (v := ?_) (by simp only [List.getElem?_toArray, List.getElem?_cons_succ, List.getElem?_cons_zero]; rfl) (by kernel_rfl) (by kernel_rfl) (by kernel_rfl) (by intro _ _ _ h; exact h) (Or.inl ⟨by rfl, fun W hSw => ?_⟩) hHeld ?_
        rotate_left 1
        · (clear hSw; first | (go_simp; done) | (go_simp; with_reducible rfl))
        try go_frame
        refine wpAnyH_take (i := 6) (oi := _) (v := ?_) (by simp only [List.getElem?_toArray, List.getElem?_cons_succ, List.getElem?_cons_zero]; rfl) (by kernel_rfl) (by kernel_rfl) (by kernel_rfl) (by intro _ _ _ h; exact h) (Or.inl ⟨by rfl, fun W hSw => ?_⟩) hHeld ?_
        rotate_left 1
        · (try dsimp only at hSw); first | (go_simp; done) | (go_simp; with_reducible rfl)
        try go_frame
        refine wpAnyH_take (i := 7) (oi := _) (v := ?_) (by simp only [List.getElem?_toArray, List.getElem?_cons_succ, List.getElem?_cons_zero]; rfl) (by kernel_rfl) (by kernel_rfl) (by kernel_rfl) (by intro _ _ _ h; exact h) (Or.inl ⟨by rfl, fun W hSw => ?_⟩) hHeld ?_
        rotate_left 1
        · (clear hSw; first | (go_simp; done) | (go_simp; with_reducible rfl))
        try go_frame
        refine wpAnyH_take (i := 8) (oi := _) (v := ?_) (by simp only [List.getElem?_toArray, List.getElem?_cons_succ, List.getElem?_cons_zero]; rfl) (by kernel_rfl) (by kernel_rfl) (by kernel_rfl) (by intro _ _ _ h; exact h) (Or.inl ⟨by rfl, fun W hSw => ?_⟩) hHeld ?_
        rotate_left 1
        · (clear hSw; first | (go_simp; done) | (go_simp; with_reducible rfl))
        try go_frame
        refine wpAnyH_take (i := 9) (oi := _) (v := ?_) (by simp only [List.getElem?_toArray, List.getElem?_cons_succ, List.getElem?_cons_zero]; rfl) (by kernel_rfl) (by kernel_rfl) (by kernel_rfl) (by intro _ _ _ h; exact h) (Or.inl ⟨by rfl, fun W hSw => ?_⟩) hHeld ?_
        rotate_left 1
        · (clear hSw; first | (go_simp; done) | (go_simp; with_reducible rfl))
        try go_frame
        refine wpAnyH_take (i := 10) (oi := _) (v := ?_) (by simp only [List.getElem?_toArray, List.getElem?_cons_succ, List.getElem?_cons_zero]; rfl) (by kernel_rfl) (by kernel_rfl) (by kernel_rfl) (by intro _ _ _ h; exact h) (Or.inl ⟨by rfl, fun W hSw => ?_⟩) hHeld ?_
        rotate_left 1
        · (try dsimp only at hSw); first | (go_simp; done) | (go_simp; with_reducible rfl)
        try go_frame
        refine wpAnyH_ready (rs := [11]) (by kernel_rfl) (by simp) ?_
        refine AllReadyH.cons (o := _) (by simp only [List.getElem?_toArray, List.getElem?_cons_succ, List.getElem?_cons_zero]; rfl) (fun KX hKX => ?_) AllReadyH.nil
        clear hHeld
        go_simp
        refine (Join_n ok vt K x y _ (HT.out.below HB.out) zx.out zy.out).mono ?_
        rw [tyv_pair]
        rintro e wn ⟨rfl, hbn⟩
        replace HO := Lib.hid (HO.out.kptS (.of_below hbn : Kpt [] _ _) (fun _ _ => by simp))
        replace HB := Lib.hid (HB.out.trans (hbn.mono HB.out.size))
        replace HCA := Lib.hid (HCA.out.below hbn HGA.out)
        replace HGA := Lib.hid (Nat.lt_of_lt_of_le HGA.out hbn.size)
        replace HCC := Lib.hid (HCC.out.below hbn HGC.out)
        replace HGC := Lib.hid (Nat.lt_of_lt_of_le HGC.out hbn.size)
        clear hbn
        refine hKX.out _ _ (by first | exact ⟨HCA.out.two, HCC.out.two⟩ | exact ⟨(cells2_kpt HCA.out HGA.out (set2_kpt _ _ _ _ _ _) HNA.out).two, (cells2_kpt HCC.out HGC.out (set2_kpt _ _ _ _ _ _) HNC.out).two⟩) (fun hHeld => ?_)
        clear hKX KX
        try go_frame
        refine wpAnyH_take (i := 12) (oi := _) (v := ?_) (by simp only [List.getElem?_toArray, List.getElem?_cons_succ, List.getElem?_cons_zero]; rfl) (by kernel_rfl) (by kernel_rfl) (by kernel_rfl) (by intro _ _ _ h; exact h) (Or.inl ⟨by rfl, fun W hSw => ?_⟩) hHeld ?_
        rotate_left 1
        · (clear hSw; first | (go_simp; done) | (go_simp; with_reducible rfl))
        try go_frame
        refine wpAnyH_ready (rs := [13]) (by kernel_rfl) (by simp) ?_
        refine AllReadyH.cons (o := _) (by simp only [List.getElem?_toArray, List.getElem?_cons_succ, List.getElem?_cons_zero]; rfl) (fun KX hKX => ?_) AllReadyH.nil
        clear hHeld
        obtain ⟨g', cap', e1, -, hgB, hgl, hgf, hgc, hput⟩ := own_put2 HO.out HAT.out (joinT (K.map skOf) x y)
        simp only [Value.slice.injEq, Option.some.injEq, Addr.mk.injEq, and_true] at e1
        obtain ⟨rfl, -, -⟩ := e1
        have u0 := hgc 0 _ rfl
        have u1 := hgc 1 _ rfl
        have f0 := hgf (i * 2)
        have f1 := hgf (i * 2 + 1)
        simp only [Nat.add_zero] at u0
        have HPUT := Lib.hid hput
        clear hgc hgf hput hgB
        go_simp
        refine hKX.out _ _ (by first | exact ⟨HCA.out.two, HCC.out.two⟩ | exact ⟨(cells2_kpt HCA.out HGA.out (set2_kpt _ _ _ _ _ _) HNA.out).two, (cells2_kpt HCC.out HGC.out (set2_kpt _ _ _ _ _ _) HNC.out).two⟩) (fun hHeld => ?_)
        clear hKX KX
        try go_frame
        refine wpAnyH_done (by kernel_rfl) ?_ _
        clear hHeld u0 u1 f0 f1
        obtain ⟨w7, hw7⟩ : ∃ z, z = (wn.setCell ⟨g, i * 2, none⟩ (.int .i64 (joinT (K.map skOf) x y).1)).setCell ⟨g, i * 2 + 1, none⟩ (.string (joinT (K.map skOf) x y).2) := ⟨_, rfl⟩
        replace HB := Lib.hid (HB.out.trans ((set2_bl (u := .int .i64 (joinT (K.map skOf) x y).1) (v := .string (joinT (K.map skOf) x y).2) (g := g) (o := i * 2) (o2 := i * 2 + 1) HG.out HB.out.size)))
        rw [← hw7] at HPUT HB ⊢
        clear hw7 HO
        go_wp2_with fail
        go_roundw
        case rel => exact ⟨i + 1, by go_num, by omega, Lib.hid (by rw [← HJS.out]; exact HPUT.out), HB⟩
        case measure => simp [intOf]; omega
      · obtain rfl : i = n := by omega
        have hlt' : ¬ (i : Int) < (i : Int) := by omega
        go_wp2_with fail
        go_ret2
        refine ⟨_, rfl, ?_, HB.out⟩
        have := HO.out
        rw [List.take_of_length_le (by have := HJL.out; omega), List.drop_of_length_le (by simp), List.append_nil] at this
        exact this
  · rw [decide_eq_false hl, if_neg hl]
    have hl' : ¬ (a.length : Int) = (b.length : Int) := by omega
    have hl2 : ((a.length : Int) != (b.length : Int)) = true := by simpa using hl'
    clear hra hrb h
    go_enter Try.func18, Try.ntmps18
    go_wp2_with fail
    go_ret2
    exact ⟨_, rfl, OwnX.nil _ _ _ _ _, Below.refl _ _⟩
end Go.Proofs.Ytdjciahaohfohaa.R
namespace Go.Proofs.Ytdjciahaohfohaa.R
open Go.RowKit Go.Proofs.Ytdjciahaohfohaa.D Go.Proofs.Ytdjciahaohfohaa.O Go.Proofs.Ytdjciahaohfohaa.A
def FewM (m : Mth) : Prop := m.params.length ≤ 1000000 ∧ m.code.length ≤ 1000000 ∧ m.hs.length ≤ 1000000
theorem when_all {α : Type} {P : α → Prop} {b : Bool} {l : List α} (h : ∀ m ∈ l, P m) : ∀ m ∈ whenS b l, P m := fun m hm => by
  unfold whenS at hm
  split at hm
  · exact h m hm
  · cases hm
theorem app_all {α : Type} {P : α → Prop} {a b : List α} (h : ∀ m ∈ a, P m) (k : ∀ m ∈ b, P m) : ∀ m ∈ a ++ b, P m := fun m hm => (List.mem_append.1 hm).elim (h m) (k m)
theorem one_all {α : Type} {P : α → Prop} {a : α} {l : List α} (h : P a) (k : ∀ m ∈ l, P m) : ∀ m ∈ a :: l, P m := fun m hm => (List.mem_cons.1 hm).elim (fun e => e ▸ h) (k m)
theorem nil_all {α : Type} {P : α → Prop} : ∀ m ∈ ([] : List α), P m := fun m hm => by cases hm
theorem when_len {α : Type} (b : Bool) (l : List α) : (whenS b l).length ≤ l.length := by unfold whenS; split <;> simp
theorem mth_few {n : ByteArray} {ps : List Ty} {r : Ty} {st : Bool} {lo : Int} {code : List Ins} (h : ps.length ≤ 100) (k : code.length ≤ 100) : FewM (mthS n ps r st lo code) := ⟨Nat.le_trans h (by decide), Nat.le_trans k (by decide), Nat.zero_le _⟩
theorem run_few (c : ByteArray) (n : Nat) : FewM (runS c n) := mth_few (by simp) (by split <;> (try split) <;> simp)
theorem abs_few : FewM absS := ⟨Nat.zero_le _, Nat.zero_le _, Nat.zero_le _⟩
theorem clinit_few (s : ByteArray) : FewM (clinitS s) := mth_few (by simp) (by simp)
theorem rev_all {b : Bool} {P : Cls → Prop} {a : List Cls} (h : ∀ c ∈ a, P c) : ∀ c ∈ (fun a : Arch => if b then a.reverse else a) a, P c := fun c hc => by
  dsimp only at hc
  split at hc
  · exact h c (List.mem_reverse.1 hc)
  · exact h c hc
theorem few_cls {c : Cls} (h1 : c.ifaces.length ≤ 100) (h2 : c.fields.length ≤ 100) (h3 : c.methods.length ≤ 100) (h4 : ∀ m ∈ c.methods, FewM m) : FewC c := ⟨Nat.le_trans h1 (by decide), Nat.le_trans h2 (by decide), Nat.le_trans h3 (by decide), h4⟩
theorem util_few (k : Nat) : FewC (utilS k) := by
  refine few_cls (by simp [utilS]) (by simp [utilS]) ?_ ?_
  · unfold utilS
    dsimp only
    rw [List.length_append]
    (repeat' split) <;> simp
  · refine app_all ?_ (by split; exact one_all (clinit_few _) nil_all; exact nil_all)
    refine one_all (mth_few (by simp) (by simp)) (one_all (mth_few (by simp) (by simp)) (one_all (mth_few (by simp) (by simp)) (one_all (mth_few (by simp) (by simp)) (one_all (mth_few (by simp) (by simp)) (one_all (mth_few (by simp) (by simp)) (one_all (mth_few (by simp) (by simp)) (one_all (mth_few (by simp) (by split <;> simp)) (one_all (mth_few (by simp) (by simp)) nil_all))))))))
theorem len2 {α : Type} {a b : List α} {n m : Nat} (h : a.length ≤ n) (k : b.length ≤ m) : (a ++ b).length ≤ n + m := by rw [List.length_append]; omega
theorem seat_few (k0 k1 k2 k3 : Nat) : ∀ c ∈ archS k0 k1 k2 k3 [] [], FewC c := by
  unfold archS
  refine rev_all ?_
  refine app_all (app_all ?_ ?_) ?_
  · refine one_all (few_cls (by simp [mainS]) (by simp [mainS]) (Nat.le_trans (len2 (n := 2) (by simp) (when_len _ _)) (by simp)) (app_all (one_all ⟨by simp, by simp [bodyS, bAdd, roundsS], by simp [bodyS, bAdd, roundsS]⟩ (one_all ⟨by simp, by simp [bodyS, bAdd, roundsS], by simp [bodyS, bAdd, roundsS]⟩ nil_all)) (when_all (one_all (clinit_few _) nil_all)))) ?_
    refine one_all (few_cls (by simp) (by simp) (by simp) (one_all abs_few nil_all)) ?_
    exact one_all (few_cls (by simp) (by simp) (Nat.le_trans (when_len _ _) (by simp)) (when_all (one_all abs_few nil_all))) nil_all
  · unfold familyS
    refine one_all (few_cls (by simp) (by simp) (Nat.le_trans (len2 (n := 2) (m := 1) (len2 (n := 1) (m := 1) (by simp) (Nat.le_trans (when_len _ _) (by simp))) (Nat.le_trans (when_len _ _) (by simp))) (by simp)) (app_all (app_all (one_all (mth_few (by simp) (by simp)) nil_all) (when_all (one_all abs_few nil_all))) (when_all (one_all (clinit_few _) nil_all)))) ?_
    refine one_all (few_cls (by simp) (by simp) (Nat.le_trans (len2 (n := 1) (m := 1) (by simp) (Nat.le_trans (when_len _ _) (by simp))) (by simp)) (app_all (one_all (run_few _ _) nil_all) (when_all (one_all (clinit_few _) nil_all)))) ?_
    refine one_all (few_cls (by simp) (by simp) (Nat.le_trans (len2 (n := 1) (m := 1) (Nat.le_trans (when_len _ _) (by simp)) (Nat.le_trans (when_len _ _) (by simp))) (by simp)) (app_all (when_all (one_all (run_few _ _) nil_all)) (when_all (one_all (mth_few (by simp) (by simp)) nil_all)))) ?_
    refine one_all (few_cls (Nat.le_trans (when_len _ _) (by simp)) (by simp) (by simp) nil_all) ?_
    refine one_all (few_cls (by simp) (by simp) (Nat.le_trans (len2 (n := 2) (m := 1) (by simp) (Nat.le_trans (when_len _ _) (by simp))) (by simp)) (app_all (one_all (run_few _ _) (one_all (mth_few (by simp) (by simp)) nil_all)) (when_all (one_all (mth_few (by simp) (by simp)) nil_all)))) ?_
    exact one_all (few_cls (by simp) (by simp) (Nat.le_trans (len2 (n := 1) (m := 1) (by simp) (Nat.le_trans (when_len _ _) (by simp))) (by simp)) (app_all (one_all (run_few _ _) nil_all) (when_all (one_all (clinit_few _) nil_all)))) nil_all
  · refine one_all (few_cls (by simp) (by simp) (by simp) nil_all) (one_all (few_cls (by simp) (by simp) (by simp) nil_all) (one_all (few_cls (by simp) (by simp) (by simp) (one_all (mth_few (by simp) (by simp)) nil_all)) (one_all (util_few k3) nil_all)))
theorem sz_small {b : ByteArray} (h : b.size ≤ 1000) : b.size ≤ maxLen := Nat.le_trans h (by unfold maxLen; omega)
end Go.Proofs.Ytdjciahaohfohaa.R
