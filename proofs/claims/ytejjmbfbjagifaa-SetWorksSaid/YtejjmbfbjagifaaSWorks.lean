/- SetWorks' walk. -/
import Derived.Test.YtejjmbfbjagifaaSTells
namespace Go.Proofs.Ytejjmbfbjagifaa.S
open Go.ChangeShapes Go.WideShapes Go.ChangeAt Go.RowKit Go.Maps

theorem and7 (n : Int) : bits .and .i64 n 7 = n % 8 := by
  have hm : (BitVec.ofInt 64 7).toNat = 2 ^ 3 - 1 := by decide
  have e : (BitVec.ofInt 64 n &&& BitVec.ofInt 64 7).toNat = (n % ((2 ^ 64 : Nat) : Int)).toNat % 2 ^ 3 := by
    rw [BitVec.toNat_and, BitVec.toNat_ofInt, hm, Nat.and_two_pow_sub_one_eq_mod]
  show IntKind.i64.wrap ((BitVec.ofInt 64 n &&& BitVec.ofInt 64 7).toNat : Nat) = n % 8
  rw [e, IntKind.wrap_i64]
  omega

/-- a slice of deeds that came in -/
def InA (w : World) (a : Option Addr) (len cap : Nat) (xs : List (Int × Int)) : Prop :=
  xs.length = len ∧ len ≤ cap ∧ cap ≤ maxLen ∧ (∀ x ∈ xs, ok8 x.1 ∧ okI x.2) ∧
  (xs = [] ∨ ∃ b off, a = some ⟨b, off, none⟩ ∧ b < w.heap.size ∧ ∀ i x, xs[i]? = some x → w.cell? ⟨b, off + i * 2, none⟩ = some (.int .u8 x.1) ∧ w.cell? ⟨b, off + i * 2 + 1, none⟩ = some (.int .i64 x.2))

theorem cellsAct : Try.prog.cellsOf 44 = 2 := by kernel_rfl
theorem cellsU8 : Try.prog.cellsOf 5 = 1 := by kernel_rfl
theorem cellsInt : Try.prog.cellsOf 3 = 1 := by kernel_rfl
theorem acts_in {H : Type} {enc : TypeId × Value → H} {w : World} {base : Nat} {spare : Nat → Bool} {held : Bool} {fuel : Nat} {a : Option Addr} {len cap : Nat} {x : DataW H × List MemPlace}
    (h : DataW.trod enc Try.prog w base spare held fuel 40 [.slice a len cap] = some x) (hsp : ∀ b, spare b = true) : ∃ xs, InA w a len cap xs := by
  rcases Deep.open_slice_pairs Try.underlying40 Try.underlying44 cellsAct rfl rfl cellsU8 cellsInt h with ⟨hcs, _⟩ | ⟨ad, l, c, m, n, V0, V1, D0, D1, P0, P1, hcs, _, hl, hm, hmm, _, hx⟩
  · simp at hcs
    obtain ⟨rfl, rfl, rfl⟩ := hcs
    exact ⟨[], rfl, Nat.le_refl _, by unfold maxLen; omega, (fun x hx => by cases hx), .inl rfl⟩
  · simp at hcs
    obtain ⟨rfl, rfl, rfl⟩ := hcs
    rw [hsp, if_pos rfl] at hmm
    subst hmm
    have hv : ∀ i, ∃ p : Int × Int, i < len → V0 i = .int .u8 p.1 ∧ V1 i = .int .i64 p.2 ∧ (Lit.int .u8 p.1).wf = true ∧ (Lit.int .i64 p.2).wf = true := fun i => by
      by_cases hi : i < len
      · obtain ⟨_, _, t0, t1⟩ := hx i (by omega)
        obtain ⟨z0, e0, _, w0⟩ := DataW.trod_int Try.underlying5 t0
        obtain ⟨z1, e1, _, w1⟩ := DataW.trod_int Try.underlying3 t1
        simp at e0 e1
        exact ⟨(z0, z1), fun _ => ⟨e0, e1, w0, w1⟩⟩
      · exact ⟨(0, 0), fun h => absurd h hi⟩
    obtain ⟨f, hf⟩ : ∃ f : Nat → Int × Int, ∀ i, i < len → V0 i = .int .u8 (f i).1 ∧ V1 i = .int .i64 (f i).2 ∧ (Lit.int .u8 (f i).1).wf = true ∧ (Lit.int .i64 (f i).2).wf = true := ⟨fun i => Classical.choose (hv i), fun i hi => Classical.choose_spec (hv i) hi⟩
    have hg : ∀ i t, ((List.range len).map f)[i]? = some t → i < len ∧ t = f i := by
      intro i t ht
      rw [List.getElem?_map, Option.map_eq_some_iff] at ht
      obtain ⟨j, hj, rfl⟩ := ht
      obtain ⟨h1, h2⟩ := List.getElem?_eq_some_iff.1 hj
      rw [List.length_range] at h1
      rw [List.getElem_range] at h2
      subst h2
      exact ⟨h1, rfl⟩
    refine ⟨(List.range len).map f, by simp, hl, hm, fun t ht => ?_, ?_⟩
    · obtain ⟨i, hi, e⟩ := List.mem_iff_getElem.1 ht
      obtain ⟨h1, h2⟩ := hg i t (by rw [List.getElem?_eq_getElem hi, e])
      obtain ⟨_, _, g2, g3⟩ := hf i h1
      rw [h2]
      exact ⟨bounds_u8 g2, g3⟩
    · by_cases h0 : len = 0
      · exact .inl (by rw [h0]; rfl)
      · obtain ⟨c0, _, _, _⟩ := hx 0 (by omega)
        have e0 : ad.add (0 * 2) = ad := by simp [Addr.add]
        rw [e0] at c0
        have hs := spot_of_cell c0
        refine .inr ⟨ad.block, ad.off, ?_, World.block_lt_of_cell? _ _ c0, fun i t ht => ?_⟩
        · obtain ⟨b, o, s⟩ := ad
          simp only at hs
          subst hs
          rfl
        · obtain ⟨h1, h2⟩ := hg i t ht
          obtain ⟨g0, g1, _, _⟩ := hf i h1
          obtain ⟨c0, c1, _, _⟩ := hx i (by omega)
          rw [h2, show ad.off + i * 2 + 1 = ad.off + (i * 2 + 1) by omega, ← add_add ad _ hs, ← add_add ad _ hs]
          exact ⟨by rw [c0, g0], by rw [c1, g1]⟩

/-- what may be written when v1 and v2 must stay -/
def okL (B : Nat) (v1 v2 : Value) (b : Nat) : Prop := B ≤ b ∧ v1.ownBlock ≠ some b ∧ v2.ownBlock ≠ some b
theorem own_kp {α : Type} {c : α → Value} {T : TypeId} {w w' : World} {B B' : Nat} {v v1 v2 : Value} {xs : List α} (h : OwnC c T w B v xs) (hk : Kp (okL B' v1 v2) w w') (hv : v = v1 ∨ v = v2) : OwnC c T w' B v xs := by
  refine ⟨h.1, ?_⟩
  rcases h.2 with hn | ⟨g, cap, cur, rfl, hb, hgg, rest⟩
  · exact .inl hn
  · refine .inr ⟨g, cap, cur, rfl, hb, hk.block hgg (fun ho => ?_), rest⟩
    rcases hv with rfl | rfl
    · exact ho.2.1 rfl
    · exact ho.2.2 rfl
theorem okL_new {α β : Type} {c : α → Value} {c' : β → Value} {T T' : TypeId} {w : World} {B : Nat} {v1 v2 : Value} {xs : List α} {ys : List β} (h1 : OwnC c T w B v1 xs) (h2 : OwnC c' T' w B v2 ys) (hB : B ≤ w.heap.size) : ∀ b, w.heap.size ≤ b → okL B v1 v2 b := fun b hb =>
  ⟨by omega, fun e => by have := (h1.lt b e).2; omega, fun e => by have := (h2.lt b e).2; omega⟩
theorem wq_swap {w : World} {B wb : Nat} {v1 v2 : Value} {E N : List Int} (h : WqI (okL B v1 v2) w wb E N) : WqI (okL B v2 v1) w wb E N := h.mono (fun _ hb _ => ⟨hb.1, hb.2.2, hb.2.1⟩)
/-- one of the two has grown -/
theorem app1 {w5 w6 : World} {B wb : Nat} {v1 v1' v2 : Value} {E N L1 L1' L2 : List Int} {o : Obj} (hw : WqI (okL B v1 v2) w5 wb E N) (h1 : OwnC cI 3 w5 B v1 L1) (h2 : OwnC cI 3 w5 B v2 L2) (hs : ∀ g, v1.ownBlock = some g → v2.ownBlock ≠ some g)
    (_ho : OwnC cI 3 w6 B v1' L1') (hg : (w5.alloc o).grownBy w6 v1.ownBlock) (hl : v1'.ownBlock = v1.ownBlock ∨ v1'.ownBlock = some (w5.alloc o).heap.size) (hB : B ≤ w5.heap.size) :
    WqI (okL B v1' v2) w6 wb E N ∧ OwnC cI 3 w6 B v2 L2 ∧ (∀ g, v1'.ownBlock = some g → v2.ownBlock ≠ some g) ∧ Below B w5 w6 := by
  have k : Kpt v1.ownBlock.toList w5 w6 := (Kpt.alloc _ w5 o).trans (.of_grown (S := v1.ownBlock.toList) hg (fun g e => .inl (by rw [e]; simp))) (fun x hx => .inl hx)
  refine ⟨?_, h2.kpt k (fun g e hx => hs g (by simpa using hx) e), fun g e e2 => ?_, k.below (fun y hy => (h1.lt y (by simpa using hy)).1) hB⟩
  · have a1 : WqI (fun b => okL B v1 v2 b ∧ okL B v1' v2 b) w5 wb E N := hw.mono (fun b hb hl5 => ⟨hb, hb.1, fun e => by
      rcases hl with e2 | e2
      · exact hb.2.1 (e2 ▸ e)
      · rw [e2] at e
        simp at e
        omega, hb.2.2⟩)
    have a2 := a1.kpt k (fun x hx h => h.1.2.1 (by simpa using hx))
    exact a2.mono (fun b hb _ => hb.2)
  · rcases hl with e3 | e3
    · exact hs g (e3 ▸ e) e2
    · rw [e3] at e
      cases e
      have := (h2.lt _ e2).2
      simp at this
      omega
/-- the second has been made anew -/
theorem app2 {w5 w6 : World} {B wb : Nat} {v1 v2 v2' : Value} {E N L1 L2' : List Int} (hw : WqI (okL B v1 v2) w5 wb E N) (h1 : OwnC cI 3 w5 B v1 L1) (hk : Below w5.heap.size w5 w6) (ho : OwnC cI 3 w6 w5.heap.size v2' L2') (hB : B ≤ w5.heap.size) :
    WqI (okL B v1 v2') w6 wb E N ∧ OwnC cI 3 w6 B v1 L1 ∧ OwnC cI 3 w6 B v2' L2' ∧ (∀ g, v1.ownBlock = some g → v2'.ownBlock ≠ some g) := by
  have a1 : WqI (okL B v1 v2') w5 wb E N := hw.mono (fun b hb hl5 => ⟨hb.1, hb.2.1, fun e => by have := (ho.lt b e).1; omega⟩)
  exact ⟨a1.bel hk, h1.kpt (.of_below (S := []) hk) (by simp), ho.mono hB, fun g e e2 => by have := (ho.lt g e2).1; have := (h1.lt g e).2; omega⟩

/-- the story so far: what the Work has, what the law's own lists have -/
def StW (B wb : Nat) (wr : World) (ve vt : Value) (E' T' : List Int) : Prop := ∃ E N : List Int, WqI (okL B ve vt) wr wb E N ∧ OwnC cI 3 wr B ve E' ∧ OwnC cI 3 wr B vt T' ∧ (∀ g, ve.ownBlock = some g → vt.ownBlock ≠ some g) ∧
  (∀ y, y ∈ E ↔ y ∈ E') ∧ (∀ y, y ∈ N ↔ y ∈ T') ∧ T'.Nodup ∧ (∀ y ∈ T', y ∈ E') ∧ E.length ≤ E'.length ∧ B ≤ wr.heap.size
theorem StW.drewN {B wb : Nat} {wr : World} {ve vt : Value} {E' T' : List Int} (h : StW B wb wr ve vt E' T') (n : Nat) : StW B wb (wr.drewN n) ve vt E' T' := h
theorem rd_back_if {α : Type} {c : α → Value} {ok : Nat → Prop} {w : World} {b n cap : Nat} {xs : List α} (h : RdC c ok w (.slice (some ⟨b, 0, none⟩) n cap) xs) {k : Nat} (hk : k ≤ xs.length) : RdC c ok w (.slice (some ⟨b, if cap = k then 0 else k, none⟩) (xs.length - k) (cap - k)) (xs.drop k) := by
  by_cases e : cap = k
  · rw [if_pos e]
    obtain ⟨p', cap', e2, h1, h2, h3, h4⟩ := h
    simp only [Value.slice.injEq] at e2
    obtain ⟨_, _, rfl⟩ := e2
    refine ⟨some ⟨b, 0, none⟩, cap - k, by rw [List.length_drop], by rw [List.length_drop]; omega, (fun e => by cases e), by omega, .inl ?_⟩
    exact List.drop_eq_nil_of_le (by omega)
  · rw [if_neg e]
    have := h.back hk
    simpa using this
theorem take_least {N T : List Int} {x y : Int} (hN : ∀ z, z ∈ N ↔ z ∈ T) (hx : x ∈ N) (hl : ∀ z ∈ N, ltI z x = false) (hy : y ∈ T) (hm : ∀ z ∈ T, ¬ z < y) : x = y := by
  have h1 := hl y ((hN y).2 hy)
  have h2 := hm x ((hN x).1 hx)
  simp [ltI] at h1
  omega
theorem cut_mem {T : List Int} {k : Nat} {x : Int} (hn : T.Nodup) (hx : T[k]? = some x) : (∀ y, y ∈ T.take k ++ T.drop (k + 1) ↔ y ∈ T ∧ y ≠ x) ∧ (T.take k ++ T.drop (k + 1)).Nodup ∧ (T.take k ++ T.drop (k + 1)).length + 1 = T.length := by
  obtain ⟨hk, rfl⟩ := List.getElem?_eq_some_iff.1 hx
  have e : T.take k ++ T[k] :: T.drop (k + 1) = T := by rw [← List.drop_eq_getElem_cons hk, List.take_append_drop]
  have hp : (T[k] :: (T.take k ++ T.drop (k + 1))).Perm T := (List.perm_middle.symm).trans (List.Perm.of_eq e)
  have hn2 := hp.nodup_iff.2 hn
  obtain ⟨h1, h2⟩ := List.nodup_cons.1 hn2
  refine ⟨fun y => ?_, h2, by simpa using hp.length_eq⟩
  rw [← hp.mem_iff, List.mem_cons]
  constructor
  · intro hy
    exact ⟨.inr hy, fun e => h1 (e ▸ hy)⟩
  · rintro ⟨h3 | h3, h4⟩
    · exact absurd h3 h4
    · exact h3
theorem addS_len' {E E' : List Int} (h : E.length ≤ E'.length) (K : Int) : (addS E K).length ≤ (E' ++ [K]).length := by have := addS_len E K; simp; omega

theorem one_I (x : Int) : (cI x).oneCell' = true := rfl
/-- behind the first append of the two -/
theorem w29 {wq w7 : World} {B g ct kk : Nat} {a7 : Option Addr} {n7 c7 : Nat} {T' : List Int} (ht : OwnC cI 3 wq B (.slice (some ⟨g, 0, none⟩) T'.length ct) T') (hk : kk + 1 ≤ T'.length)
    (ho7 : OwnC cI 3 w7 wq.heap.size (.slice a7 n7 c7) (([] : List Int) ++ T'.take kk)) (hg7 : wq.drew.grownBy w7 (Value.slice none 0 0).ownBlock) :
    OwnC cI 3 w7 wq.heap.size (.slice a7 n7 c7) (T'.take kk) ∧ RdC cI (fun b => b = g) w7 (.slice (some ⟨g, if ct = kk + 1 then 0 else kk + 1, none⟩) (T'.length - (kk + 1)) (ct - (kk + 1))) (T'.drop (kk + 1)) ∧ Below wq.heap.size wq w7 := by
  have k3 : Kpt [] wq w7 := .of_grown (grown_undrew hg7) (fun z e => by cases e)
  refine ⟨by rw [List.nil_append] at ho7; exact ho7, (rd_back_if ht.rd_g hk).kpt k3 (by simp), k3.below (by simp) (Nat.le_refl _)⟩

set_option maxHeartbeats 8000000 in
set_option maxRecDepth 100000 in
theorem works_l (a : Option Addr) (len cap : Nat) (a1 : Option Addr) (len1 cap1 : Nat) (xs : List Int) (ac : List (Int × Int)) (w : World) (h : InC cI okI w a len cap xs) (h1 : InA w a1 len1 cap1 ac) :
    Calls Try.prog 4 #[.slice a len cap, .slice a1 len1 cap1] w fun e w' => e = .returned (.bool true) ∧ Below w.heap.size w w' := by
  obtain ⟨hle, hcm⟩ := h.le
  obtain ⟨hyl, hle1, hcm1, -⟩ := id h1
  have hxl := h.1
  have hokx := h.2.2
  have HI := Lib.hid h
  have HJ := Lib.hid h1.2.2.2
  clear h h1
  unfold maxLen at hcm hcm1
  subst hxl
  subst hyl
  go_enter Try.func4, Try.ntmps4
  go_wp2_with fail
  refine (known_s w).mono ?_
  rintro e w1 ⟨rfl, hb1⟩
  have HB1 := Lib.hid hb1
  clear hb1
  by_cases hbig : 20 < xs.length ∨ 60 < ac.length
  · by_cases hb1 : 20 < xs.length
    · have hb1' : (20 : Int) < (xs.length : Int) := by omega
      go_wp2
      go_ret
      exact ⟨rfl, HB1.out⟩
    · have hb1' : (xs.length : Int) ≤ 20 := by omega
      have hb2' : (60 : Int) < (ac.length : Int) := by omega
      go_wp2
      go_ret
      exact ⟨rfl, HB1.out⟩
  · have hsm : (xs.length : Int) ≤ 20 := by omega
    have hsm1 : (ac.length : Int) ≤ 60 := by omega
    have hx20 : xs.length ≤ 20 := by omega
    have hy60 : ac.length ≤ 60 := by omega
    clear hbig
    go_wp2_with fail
    refine (newwork_I _ [] (fun _ => True) w1 (RdC.nil _ _) (by simp) (by simp)).mono ?_
    rintro e w2 ⟨wb, rfl, hw2, hb2⟩
    rw [onceL_nil] at hw2
    have HS2 : Hid (StW w1.heap.size wb w2 (.slice none 0 0) (.slice none 0 0) [] []) := Lib.hid ⟨[], [], hw2.mono (fun b hb _ => ⟨hb, (fun e => by cases e), fun e => by cases e⟩), OwnC.nil _ _, OwnC.nil _ _, (fun g e => by cases e), (fun _ => Iff.rfl), (fun _ => Iff.rfl), List.nodup_nil, (fun y hy => by cases hy), Nat.le_refl _, hb2.size⟩
    have HB2 := Lib.hid hb2
    clear hw2 hb2
    go_wp2_with fail
    go_loopw [6, 7, 8] (fun ve vt v wr => ∃ (i : Nat) (E' T' : List Int), v = .int .i64 (i : Int) ∧ E'.length ≤ i ∧ T'.length ≤ i ∧ i ≤ xs.length + ac.length ∧ Hid (StW w1.heap.size wb wr ve vt E' T') ∧ Hid (Below w1.heap.size w1 wr)) (fun _ _ v _ => xs.length + ac.length - (intOf v).toNat)
    case atStart => exact ⟨0, [], [], rfl, by simp, by simp, by omega, HS2, HB2⟩
    case round =>
      clear HS2 HB2
      obtain ⟨i, E', T', rfl, hEl, hTl, hi, HST, HB⟩ := hrel
      have HBr : Hid (Below w.heap.size w wr) := Lib.hid (HB1.out.trans (HB.out.mono HB1.out.size))
      by_cases hlt : i < xs.length + ac.length
      · have hlt' : (i : Int) < (xs.length : Int) + (ac.length : Int) := by omega
        go_upto_if 38 with fail
        go_cut [9, 10] (fun q k wx => ∃ Q K : Int, q = .int .u8 Q ∧ k = .int .i64 K ∧ 0 ≤ Q ∧ Q ≤ 4 ∧ okI K ∧ ∃ n, wx = wr.drewN n)
        case first =>
          by_cases hx : i < xs.length
          · have hx' : (i : Int) < (xs.length : Int) := by omega
            have HRx := Lib.hid (HI.out.low rfl HBr.out)
            have hne : xs ≠ [] := by rintro rfl; simp at hx
            obtain ⟨b, off, rfl, hb, hbl, hc⟩ := HRx.out.at hne
            have ci : wr.cell? ⟨b, off + i, none⟩ = some (.int .i64 xs[i]) := hc i _ (List.getElem?_eq_getElem hx)
            have hox := hokx _ (List.getElem_mem hx)
            obtain ⟨x, hxx⟩ : ∃ x, xs[i] = x := ⟨_, rfl⟩
            rw [hxx] at ci hox
            clear hc hxx
            go_wp2_with fail
            go_meet
            exact ⟨0, x, rfl, rfl, by omega, by omega, hox, 0, rfl⟩
          · obtain ⟨j, hj⟩ : ∃ j, i - xs.length = j := ⟨_, rfl⟩
            have hjj : (i : Int) - (xs.length : Int) = (j : Int) := by omega
            have hjl : j < ac.length := by omega
            have hjl' : (j : Int) < (ac.length : Int) := by omega
            have hge' : (xs.length : Int) ≤ (i : Int) := by omega
            rcases HJ.out.2 with hnil | ⟨b, off, rfl, hbl, hc⟩
            · rw [hnil] at hjl; simp at hjl
            obtain ⟨⟨A, X⟩, hp⟩ : ∃ p, ac[j] = p := ⟨_, rfl⟩
            obtain ⟨h8, hoX⟩ := HJ.out.1 _ (List.getElem_mem hjl)
            obtain ⟨c1, c2⟩ := hc j _ (List.getElem?_eq_getElem hjl)
            rw [hp] at c1 c2 h8 hoX
            obtain ⟨h80, h81⟩ := h8
            obtain ⟨m, rfl⟩ : ∃ m : Nat, A = (m : Int) := ⟨A.toNat, by simp only at h80; omega⟩
            have ca : wr.cell? ⟨b, off + j * 2, none⟩ = some (.int .u8 (m : Int)) := (HBr.out.cell (p := ⟨b, off + j * 2, none⟩) hbl).trans c1
            have cb : wr.cell? ⟨b, off + j * 2 + 1, none⟩ = some (.int .i64 X) := (HBr.out.cell (p := ⟨b, off + j * 2 + 1, none⟩) hbl).trans c2
            have hoX' : okI X := hoX
            obtain ⟨Q, hQ⟩ : ∃ Q, m % 5 = Q := ⟨_, rfl⟩
            have hrem : (m : Int).tmod 5 = (Q : Int) := by rw [Int.tmod_eq_emod_of_nonneg (by omega), ← hQ]; simp
            have hQ4 : Q ≤ 4 := by omega
            obtain ⟨r3, hr3⟩ : ∃ r, i % 3 = r := ⟨_, rfl⟩
            have hrem3 : (i : Int).tmod 3 = (r3 : Int) := by rw [Int.tmod_eq_emod_of_nonneg (by omega), ← hr3]; simp
            have h81' : (m : Int) ≤ 255 := h81
            clear hc c1 c2 hp hQ hr3 hj h80 h81 hoX hx
            by_cases hq : Q < 4
            · have hq' : (Q : Int) < 4 := by omega
              by_cases hr : 0 < r3
              · have hr' : (0 : Int) < (r3 : Int) := by omega
                have h7 := and7 X
                obtain ⟨K, hK⟩ : ∃ K, X % 8 = K := ⟨_, rfl⟩
                rw [hK] at h7
                have hok : okI K := okI_of (by omega) (by omega)
                clear hK
                go_wp2_with fail
                go_quiet (fail)
                go_wp2_with fail
                go_meet
                exact ⟨Q, K, rfl, rfl, by omega, by omega, hok, _, rfl⟩
              · obtain rfl : r3 = 0 := by omega
                clear hr
                go_wp2_with fail
                go_quiet (fail)
                go_wp2_with fail
                go_meet
                exact ⟨Q, X, rfl, rfl, by omega, by omega, hoX', _, rfl⟩
            · obtain rfl : Q = 4 := by omega
              clear hq
              go_wp2_with fail
              go_quiet (fail)
              go_wp2_with fail
              go_meet
              exact ⟨4, X, rfl, rfl, by omega, by omega, hoX', _, rfl⟩
        case rest =>
          obtain ⟨Q, K, rfl, rfl, hQ0, hQ4, hK, n, hwc⟩ := hcut
          have hst : StW w1.heap.size wb wc u6 u7 E' T' := by rw [hwc]; exact HST.out.drewN n
          have HBq : Hid (Below w1.heap.size w1 wc) := Lib.hid (by rw [hwc]; exact HB.out.trans (below_drewN _ _ _))
          obtain ⟨E, N, hw, he, ht, hs, hE, hN, hnd, hte, hEl', hBw⟩ := hst
          obtain ⟨pe, ne, ce, rfl⟩ := he.slice
          obtain ⟨pt, nt, ct, rfl⟩ := ht.slice
          obtain ⟨rfl, hne1, hne2⟩ : ne = E'.length ∧ E'.length ≤ ce ∧ ce ≤ 2 ^ 63 - 1 := by
            obtain ⟨p', c', e, g1, g2⟩ := he.rd.form
            simp only [Value.slice.injEq] at e
            unfold maxLen at g2
            obtain ⟨_, e1, e2⟩ := e
            exact ⟨e1, by omega, by omega⟩
          obtain ⟨rfl, hnt1, hnt2⟩ : nt = T'.length ∧ T'.length ≤ ct ∧ ct ≤ 2 ^ 63 - 1 := by
            obtain ⟨p', c', e, g1, g2⟩ := ht.rd.form
            simp only [Value.slice.injEq] at e
            unfold maxLen at g2
            obtain ⟨_, e1, e2⟩ := e
            exact ⟨e1, by omega, by omega⟩
          have hNl : N.length ≤ 80 := by rw [nodup_len_eq hw.nodup hnd hN]; omega
          have hEl2 : E.length ≤ 80 := by omega
          have HNEW := Lib.hid (okL_new he ht hBw)
          have HW := Lib.hid hw
          have HE := Lib.hid he
          have HT := Lib.hid ht
          have HSEP := Lib.hid hs
          have HEE := Lib.hid hE
          have HNN := Lib.hid hN
          have HND := Lib.hid hnd
          have HTE := Lib.hid hte
          have HBW := Lib.hid hBw
          have HELL := Lib.hid hEl'
          clear hw he ht hs hE hN hnd hte hBw hEl' hwc HST HB HBr
          rcases (by omega : Q = 0 ∨ Q = 1 ∨ Q = 2 ∨ Q = 3 ∨ Q = 4) with rfl | rfl | rfl | rfl | rfl
          · go_wp2_with fail
            refine (put_I _ wb E N K wc HW.out hK (by omega) (by omega) HNEW.out).mono ?_
            rintro e w5 ⟨rfl, hw5, hk5⟩
            have he5 := own_kp HE.out hk5 (.inl rfl)
            have ht5 := own_kp HT.out hk5 (.inr rfl)
            have hBw5 : w1.heap.size ≤ w5.heap.size := Nat.le_trans HBW.out hk5.size
            have HB5 := Lib.hid (HBq.out.trans (hk5.below (fun b hb => hb.1) HBW.out))
            have HE5 := Lib.hid he5
            have HT5 := Lib.hid ht5
            have HBW5 := Lib.hid hBw5
            clear hk5 he5 ht5 hBw5 HE HT HNEW HW HBq
            by_cases hin : K ∈ E'
            · have hr : hasB E K = true := hasB_in ((HEE.out K).2 hin)
              rw [hr]
              rw [addS_in ((HEE.out K).2 hin), putN_in ((HEE.out K).2 hin)] at hw5
              have HW5 := Lib.hid hw5
              clear hw5 hr
              go_wp2_with fail
              refine (in_I _ E' K _ w5 HE5.out.rd (by omega)).mono ?_
              rintro e w6 ⟨rfl, rfl⟩
              rw [hasB_in hin]
              go_wp2_with fail
              refine (in_I _ E' K _ w5 HE5.out.rd (by omega)).mono ?_
              rintro e w6 ⟨rfl, rfl⟩
              rw [hasB_in hin]
              go_wp2_with fail
              go_roundw
              case rel => exact ⟨i + 1, E', T', by go_num, by omega, by omega, by omega, Lib.hid ⟨E, N, HW5.out, HE5.out, HT5.out, HSEP.out, HEE.out, HNN.out, HND.out, HTE.out, HELL.out, HBW5.out⟩, HB5⟩
              case measure => simp [intOf]; omega
            · have hnE : K ∉ E := fun h => hin ((HEE.out K).1 h)
              have hnT : K ∉ T' := fun h => hin (HTE.out K h)
              have hnN : K ∉ N := fun h => hnT ((HNN.out K).1 h)
              have hr : hasB E K = false := hasB_out hnE
              rw [hr]
              rw [addS_out hnE, putN_out hnE, addS_out hnN] at hw5
              have HW5 := Lib.hid hw5
              have HNT := Lib.hid hnT
              clear hw5 hr hnE hnT hnN
              go_wp2_with fail
              refine (in_I _ E' K _ w5 HE5.out.rd (by omega)).mono ?_
              rintro e w6 ⟨rfl, rfl⟩
              rw [hasB_out hin]
              go_wp2_with fail
              refine (in_I _ E' K _ w5 HE5.out.rd (by omega)).mono ?_
              rintro e w6 ⟨rfl, rfl⟩
              rw [hasB_out hin]
              have HEa := Lib.hid (HE5.out.alloc (.cells #[.int .i64 K] 3))
              have HX5 := Lib.hid (rd_one (c := cI) (x := K) (heap_alloc_new w5 (.cells #[.int .i64 K] 3)) rfl)
              go_wp2_with (at_builtin; refine wp_appC infI (fun _ => rfl) rfl _ _ rfl w1.heap.size _ E' rfl HEa.out (fun _ => True) _ [K] rfl HX5.out (by simp; omega) (by have := HBW5.out; simp; omega) ?_)
              intro v6 w6 ho6 hg6 hl6
              obtain ⟨g1, g2, g3, g4⟩ := app1 (o := .cells #[.int .i64 K] 3) HW5.out HE5.out HT5.out HSEP.out ho6 hg6 (by simpa using hl6) HBW5.out
              obtain ⟨p6, n6, c6, rfl⟩ := ho6.slice
              have HW6 := Lib.hid g1
              have HT6 := Lib.hid g2
              have HS6 := Lib.hid g3
              have HB6 := Lib.hid (HB5.out.trans g4)
              have HE6 := Lib.hid ho6
              have HBW6 := Lib.hid (Nat.le_trans HBW5.out g4.size)
              have HTa := Lib.hid (g2.alloc (.cells #[.int .i64 K] 3))
              have HX6 := Lib.hid (rd_one (c := cI) (x := K) (heap_alloc_new w6 (.cells #[.int .i64 K] 3)) rfl)
              clear g1 g2 g3 g4 ho6 hg6 hl6 HEa HX5 HW5 HE5 HT5 HB5 HBW5 HSEP
              go_wp2_with (at_builtin; refine wp_appC infI (fun _ => rfl) rfl _ _ rfl w1.heap.size _ T' rfl HTa.out (fun _ => True) _ [K] rfl HX6.out (by simp; omega) (by have := HBW6.out; simp; omega) ?_)
              intro v7 w7 ho7 hg7 hl7
              obtain ⟨g1, g2, g3, g4⟩ := app1 (o := .cells #[.int .i64 K] 3) (wq_swap HW6.out) HT6.out HE6.out (fun g e1 e2 => HS6.out g e2 e1) ho7 hg7 (by simpa using hl7) HBW6.out
              obtain ⟨p7, n7, c7, rfl⟩ := ho7.slice
              have HW7 := Lib.hid (wq_swap g1)
              have HE7 := Lib.hid g2
              have HS7 := Lib.hid g3
              have HB7 := Lib.hid (HB6.out.trans g4)
              have HT7 := Lib.hid ho7
              have HBW7 := Lib.hid (Nat.le_trans HBW6.out g4.size)
              clear g1 g2 g3 g4 ho7 hg7 hl7 HTa HX6 HW6 HE6 HT6 HB6 HBW6 HS6
              go_wp2_with fail
              go_roundw
              case rel => exact ⟨i + 1, E' ++ [K], T' ++ [K], by go_num, by simp; omega, by simp; omega, by omega, Lib.hid ⟨E ++ [K], N ++ [K], HW7.out, HE7.out, HT7.out, (fun g e1 e2 => HS7.out g e2 e1), (fun y => by simp [HEE.out y]), (fun y => by simp [HNN.out y]), (by rw [List.nodup_append]; exact ⟨HND.out, by simp, fun y hy z hz e => HNT.out (by rw [List.mem_singleton.1 hz] at e; rw [← e]; exact hy)⟩), (fun y hy => by simp at hy ⊢; exact hy.imp (HTE.out y) id), (by have := HELL.out; simp; omega), HBW7.out⟩, HB7⟩
              case measure => simp [intOf]; omega
          · go_wp2_with fail
            refine (put_I _ wb E N K wc HW.out hK (by omega) (by omega) HNEW.out).mono ?_
            rintro e w5 ⟨rfl, hw5, hk5⟩
            have he5 := own_kp HE.out hk5 (.inl rfl)
            have ht5 := own_kp HT.out hk5 (.inr rfl)
            have hBw5 : w1.heap.size ≤ w5.heap.size := Nat.le_trans HBW.out hk5.size
            have HB5 := Lib.hid (HBq.out.trans (hk5.below (fun b hb => hb.1) HBW.out))
            have HE5 := Lib.hid he5
            have HT5 := Lib.hid ht5
            have HBW5 := Lib.hid hBw5
            clear hk5 he5 ht5 hBw5 HE HT HNEW HW HBq
            by_cases hin : K ∈ E'
            · have hr : hasB E K = true := hasB_in ((HEE.out K).2 hin)
              rw [hr]
              rw [addS_in ((HEE.out K).2 hin), putN_in ((HEE.out K).2 hin)] at hw5
              have HW5 := Lib.hid hw5
              clear hw5 hr
              go_wp2_with fail
              refine (in_I _ E' K _ w5 HE5.out.rd (by omega)).mono ?_
              rintro e w6 ⟨rfl, rfl⟩
              rw [hasB_in hin]
              go_wp2_with fail
              refine (in_I _ E' K _ w5 HE5.out.rd (by omega)).mono ?_
              rintro e w6 ⟨rfl, rfl⟩
              rw [hasB_in hin]
              go_wp2_with fail
              go_roundw
              case rel => exact ⟨i + 1, E', T', by go_num, by omega, by omega, by omega, Lib.hid ⟨E, N, HW5.out, HE5.out, HT5.out, HSEP.out, HEE.out, HNN.out, HND.out, HTE.out, HELL.out, HBW5.out⟩, HB5⟩
              case measure => simp [intOf]; omega
            · have hnE : K ∉ E := fun h => hin ((HEE.out K).1 h)
              have hnT : K ∉ T' := fun h => hin (HTE.out K h)
              have hnN : K ∉ N := fun h => hnT ((HNN.out K).1 h)
              have hr : hasB E K = false := hasB_out hnE
              rw [hr]
              rw [addS_out hnE, putN_out hnE, addS_out hnN] at hw5
              have HW5 := Lib.hid hw5
              have HNT := Lib.hid hnT
              clear hw5 hr hnE hnT hnN
              go_wp2_with fail
              refine (in_I _ E' K _ w5 HE5.out.rd (by omega)).mono ?_
              rintro e w6 ⟨rfl, rfl⟩
              rw [hasB_out hin]
              go_wp2_with fail
              refine (in_I _ E' K _ w5 HE5.out.rd (by omega)).mono ?_
              rintro e w6 ⟨rfl, rfl⟩
              rw [hasB_out hin]
              have HEa := Lib.hid (HE5.out.alloc (.cells #[.int .i64 K] 3))
              have HX5 := Lib.hid (rd_one (c := cI) (x := K) (heap_alloc_new w5 (.cells #[.int .i64 K] 3)) rfl)
              go_wp2_with (at_builtin; refine wp_appC infI (fun _ => rfl) rfl _ _ rfl w1.heap.size _ E' rfl HEa.out (fun _ => True) _ [K] rfl HX5.out (by simp; omega) (by have := HBW5.out; simp; omega) ?_)
              intro v6 w6 ho6 hg6 hl6
              obtain ⟨g1, g2, g3, g4⟩ := app1 (o := .cells #[.int .i64 K] 3) HW5.out HE5.out HT5.out HSEP.out ho6 hg6 (by simpa using hl6) HBW5.out
              obtain ⟨p6, n6, c6, rfl⟩ := ho6.slice
              have HW6 := Lib.hid g1
              have HT6 := Lib.hid g2
              have HS6 := Lib.hid g3
              have HB6 := Lib.hid (HB5.out.trans g4)
              have HE6 := Lib.hid ho6
              have HBW6 := Lib.hid (Nat.le_trans HBW5.out g4.size)
              have HTa := Lib.hid (g2.alloc (.cells #[.int .i64 K] 3))
              have HX6 := Lib.hid (rd_one (c := cI) (x := K) (heap_alloc_new w6 (.cells #[.int .i64 K] 3)) rfl)
              clear g1 g2 g3 g4 ho6 hg6 hl6 HEa HX5 HW5 HE5 HT5 HB5 HBW5 HSEP
              go_wp2_with (at_builtin; refine wp_appC infI (fun _ => rfl) rfl _ _ rfl w1.heap.size _ T' rfl HTa.out (fun _ => True) _ [K] rfl HX6.out (by simp; omega) (by have := HBW6.out; simp; omega) ?_)
              intro v7 w7 ho7 hg7 hl7
              obtain ⟨g1, g2, g3, g4⟩ := app1 (o := .cells #[.int .i64 K] 3) (wq_swap HW6.out) HT6.out HE6.out (fun g e1 e2 => HS6.out g e2 e1) ho7 hg7 (by simpa using hl7) HBW6.out
              obtain ⟨p7, n7, c7, rfl⟩ := ho7.slice
              have HW7 := Lib.hid (wq_swap g1)
              have HE7 := Lib.hid g2
              have HS7 := Lib.hid g3
              have HB7 := Lib.hid (HB6.out.trans g4)
              have HT7 := Lib.hid ho7
              have HBW7 := Lib.hid (Nat.le_trans HBW6.out g4.size)
              clear g1 g2 g3 g4 ho7 hg7 hl7 HTa HX6 HW6 HE6 HT6 HB6 HBW6 HS6
              go_wp2_with fail
              go_roundw
              case rel => exact ⟨i + 1, E' ++ [K], T' ++ [K], by go_num, by simp; omega, by simp; omega, by omega, Lib.hid ⟨E ++ [K], N ++ [K], HW7.out, HE7.out, HT7.out, (fun g e1 e2 => HS7.out g e2 e1), (fun y => by simp [HEE.out y]), (fun y => by simp [HNN.out y]), (by rw [List.nodup_append]; exact ⟨HND.out, by simp, fun y hy z hz e => HNT.out (by rw [List.mem_singleton.1 hz] at e; rw [← e]; exact hy)⟩), (fun y hy => by simp at hy ⊢; exact hy.imp (HTE.out y) id), (by have := HELL.out; simp; omega), HBW7.out⟩, HB7⟩
              case measure => simp [intOf]; omega
          · go_wp2_with fail
            refine (again_I _ wb E N K wc HW.out hK (by omega) (by omega) HNEW.out).mono ?_
            rintro e w5 ⟨rfl, hw5, hk5⟩
            have he5 := own_kp HE.out hk5 (.inl rfl)
            have ht5 := own_kp HT.out hk5 (.inr rfl)
            have hBw5 : w1.heap.size ≤ w5.heap.size := Nat.le_trans HBW.out hk5.size
            have HB5 := Lib.hid (HBq.out.trans (hk5.below (fun b hb => hb.1) HBW.out))
            have HE5 := Lib.hid he5
            have HT5 := Lib.hid ht5
            have HBW5 := Lib.hid hBw5
            have HEM : Hid (∀ y, y ∈ addS E K ↔ y ∈ E' ++ [K]) := Lib.hid (fun y => by rw [addS_mem, HEE.out y]; simp)
            have HEL := Lib.hid (addS_len' HELL.out K)
            have HTE2 : Hid (∀ y ∈ T' ++ [K], y ∈ E' ++ [K]) := Lib.hid (fun y hy => by simp at hy ⊢; exact hy.imp (HTE.out y) id)
            clear hk5 he5 ht5 hBw5 HE HT HNEW HW HBq
            by_cases hin : K ∈ T'
            · rw [addS_in ((HNN.out K).2 hin)] at hw5
              have HW5 := Lib.hid hw5
              clear hw5
              go_wp2_with fail
              refine (in_I _ T' K _ w5 HT5.out.rd (by omega)).mono ?_
              rintro e w6 ⟨rfl, rfl⟩
              rw [hasB_in hin]
              have HEa := Lib.hid (HE5.out.alloc (.cells #[.int .i64 K] 3))
              have HX5 := Lib.hid (rd_one (c := cI) (x := K) (heap_alloc_new w5 (.cells #[.int .i64 K] 3)) rfl)
              go_wp2_with (at_builtin; refine wp_appC infI (fun _ => rfl) rfl _ _ rfl w1.heap.size _ E' rfl HEa.out (fun _ => True) _ [K] rfl HX5.out (by simp; omega) (by have := HBW5.out; simp; omega) ?_)
              intro v6 w6 ho6 hg6 hl6
              obtain ⟨g1, g2, g3, g4⟩ := app1 (o := .cells #[.int .i64 K] 3) HW5.out HE5.out HT5.out HSEP.out ho6 hg6 (by simpa using hl6) HBW5.out
              obtain ⟨p6, n6, c6, rfl⟩ := ho6.slice
              have HW6 := Lib.hid g1
              have HT6 := Lib.hid g2
              have HS6 := Lib.hid g3
              have HB6 := Lib.hid (HB5.out.trans g4)
              have HE6 := Lib.hid ho6
              have HBW6 := Lib.hid (Nat.le_trans HBW5.out g4.size)
              clear g1 g2 g3 g4 ho6 hg6 hl6 HEa HX5 HW5 HE5 HT5 HB5 HBW5 HSEP
              go_wp2_with fail
              go_roundw
              case rel => exact ⟨i + 1, E' ++ [K], T', by go_num, by simp; omega, by omega, by omega, Lib.hid ⟨addS E K, N, HW6.out, HE6.out, HT6.out, HS6.out, HEM.out, HNN.out, HND.out, (fun y hy => HTE2.out y (by simp [hy])), HEL.out, HBW6.out⟩, HB6⟩
              case measure => simp [intOf]; omega
            · have hnN : K ∉ N := fun h => hin ((HNN.out K).1 h)
              rw [addS_out hnN] at hw5
              have HW5 := Lib.hid hw5
              have HNT := Lib.hid hin
              clear hw5 hnN
              go_wp2_with fail
              refine (in_I _ T' K _ w5 HT5.out.rd (by omega)).mono ?_
              rintro e w6 ⟨rfl, rfl⟩
              rw [hasB_out hin]
              have HTa := Lib.hid (HT5.out.alloc (.cells #[.int .i64 K] 3))
              have HX5 := Lib.hid (rd_one (c := cI) (x := K) (heap_alloc_new w5 (.cells #[.int .i64 K] 3)) rfl)
              go_wp2_with (at_builtin; refine wp_appC infI (fun _ => rfl) rfl _ _ rfl w1.heap.size _ T' rfl HTa.out (fun _ => True) _ [K] rfl HX5.out (by simp; omega) (by have := HBW5.out; simp; omega) ?_)
              intro v6 w6 ho6 hg6 hl6
              obtain ⟨g1, g2, g3, g4⟩ := app1 (o := .cells #[.int .i64 K] 3) (wq_swap HW5.out) HT5.out HE5.out (fun g e1 e2 => HSEP.out g e2 e1) ho6 hg6 (by simpa using hl6) HBW5.out
              obtain ⟨p6, n6, c6, rfl⟩ := ho6.slice
              have HW6 := Lib.hid (wq_swap g1)
              have HE6 := Lib.hid g2
              have HS6 := Lib.hid g3
              have HB6 := Lib.hid (HB5.out.trans g4)
              have HT6 := Lib.hid ho6
              have HBW6 := Lib.hid (Nat.le_trans HBW5.out g4.size)
              have HEa := Lib.hid (g2.alloc (.cells #[.int .i64 K] 3))
              have HX6 := Lib.hid (rd_one (c := cI) (x := K) (heap_alloc_new w6 (.cells #[.int .i64 K] 3)) rfl)
              clear g1 g2 g3 g4 ho6 hg6 hl6 HTa HX5 HW5 HE5 HT5 HB5 HBW5 HSEP
              go_wp2_with (at_builtin; refine wp_appC infI (fun _ => rfl) rfl _ _ rfl w1.heap.size _ E' rfl HEa.out (fun _ => True) _ [K] rfl HX6.out (by simp; omega) (by have := HBW6.out; simp; omega) ?_)
              intro v7 w7 ho7 hg7 hl7
              obtain ⟨g1, g2, g3, g4⟩ := app1 (o := .cells #[.int .i64 K] 3) HW6.out HE6.out HT6.out (fun g e1 e2 => HS6.out g e2 e1) ho7 hg7 (by simpa using hl7) HBW6.out
              obtain ⟨p7, n7, c7, rfl⟩ := ho7.slice
              have HW7 := Lib.hid g1
              have HT7 := Lib.hid g2
              have HS7 := Lib.hid g3
              have HB7 := Lib.hid (HB6.out.trans g4)
              have HE7 := Lib.hid ho7
              have HBW7 := Lib.hid (Nat.le_trans HBW6.out g4.size)
              clear g1 g2 g3 g4 ho7 hg7 hl7 HEa HX6 HW6 HE6 HT6 HB6 HBW6 HS6
              go_wp2_with fail
              go_roundw
              case rel => exact ⟨i + 1, E' ++ [K], T' ++ [K], by go_num, by simp; omega, by simp; omega, by omega, Lib.hid ⟨addS E K, N ++ [K], HW7.out, HE7.out, HT7.out, HS7.out, HEM.out, (fun y => by simp [HNN.out y]), (by rw [List.nodup_append]; exact ⟨HND.out, by simp, fun y hy z hz e => HNT.out (by rw [List.mem_singleton.1 hz] at e; rw [← e]; exact hy)⟩), HTE2.out, HEL.out, HBW7.out⟩, HB7⟩
              case measure => simp [intOf]; omega
          · by_cases hT : T' = []
            · subst hT
              obtain rfl : N = [] := by
                rw [List.eq_nil_iff_forall_not_mem]
                intro y hy
                have := (HNN.out y).1 hy
                cases this
              go_wp2_with fail
              refine (take0_I _ wb E wc HW.out).mono ?_
              rintro e w5 ⟨rfl, rfl⟩
              go_wp2_with fail
              go_roundw
              case rel => exact ⟨i + 1, E', [], by go_num, by omega, by simp, by omega, Lib.hid ⟨E, [], HW.out, HE.out, HT.out, HSEP.out, HEE.out, (fun _ => Iff.rfl), List.nodup_nil, (fun y hy => by cases hy), HELL.out, HBW.out⟩, HBq⟩
              case measure => simp [intOf]; omega
            · have hpos : 0 < T'.length := List.length_pos_iff.2 hT
              have hpos' : (0 : Int) < (T'.length : Int) := by omega
              have hNn : N ≠ [] := by
                rintro rfl
                have := (HNN.out _).2 (List.getElem_mem hpos)
                cases this
              rcases HT.out.cells with ⟨_, e'⟩ | ⟨g, cap', cur, e', _⟩
              · exact absurd e' hT
              simp only [Value.slice.injEq] at e'
              obtain ⟨rfl, e2, rfl⟩ := e'
              clear e2
              go_wp2_with fail
              refine (take_I _ wb E N wc HW.out hNn (by omega)).mono ?_
              rintro e w5 ⟨x, rfl, hxN, hxl, hw5, hk5⟩
              have he5 := own_kp HE.out hk5 (.inl rfl)
              have ht5 := own_kp HT.out hk5 (.inr rfl)
              have HB5 := Lib.hid (HBq.out.trans (hk5.below (fun b hb => hb.1) HBW.out))
              have HBW5 := Lib.hid (Nat.le_trans HBW.out hk5.size)
              have HE5 := Lib.hid he5
              have HT5 := Lib.hid ht5
              have HW5 := Lib.hid hw5
              have HLEAST : Hid (∀ y, y ∈ T' → (∀ z ∈ T', ¬ z < y) → x = y) := Lib.hid (fun y hy hm => take_least HNN.out hxN hxl hy hm)
              obtain ⟨cap5, hcc⟩ : ∃ _u : Unit, ∀ k y, T'[k]? = some y → w5.cell? ⟨g, k, none⟩ = some (.int .i64 y) := ⟨(), by
                rcases ht5.cells with ⟨_, e'⟩ | ⟨g', cap', cur', e', _, _, _, _, _, q, _⟩
                · exact absurd e' hT
                simp only [Value.slice.injEq, Option.some.injEq, Addr.mk.injEq, and_true] at e'
                obtain ⟨rfl, _, _⟩ := e'
                exact q⟩
              have HCC := Lib.hid hcc
              clear hxN hxl hw5 hk5 he5 ht5 hcc HE HT HNEW HW HBq hNn
              go_wp2_with fail
              go_loopw [13, 14] (fun kv jv w2' => ∃ kk j n : Nat, kv = .int .i64 (kk : Int) ∧ jv = .int .i64 (j : Int) ∧ kk < T'.length ∧ j ≤ T'.length ∧ Hid (∀ a y z, a < j → T'[a]? = some y → T'[kk]? = some z → ¬ y < z) ∧ w2' = w5.drewN n) (fun _ jv _ => T'.length - (intOf jv).toNat)
              case atStart => exact ⟨0, 0, 0, rfl, rfl, hpos, by omega, Lib.hid (fun a y z h => absurd h (by omega)), rfl⟩
              case round =>
                obtain ⟨kk, j, n5, rfl, rfl, hkk, hjl, HMIN, rfl⟩ := hrel
                have hkk' : (kk : Int) < (T'.length : Int) := by omega
                have hgk := List.getElem?_eq_getElem hkk
                have ck := HCC.out kk _ hgk
                obtain ⟨v, hv⟩ : ∃ v, T'[kk] = v := ⟨_, rfl⟩
                rw [hv] at ck hgk
                have GK := Lib.hid hgk
                clear hv hgk
                by_cases hlt : j < T'.length
                · have hlt' : (j : Int) < (T'.length : Int) := by omega
                  have hgj := List.getElem?_eq_getElem hlt
                  have cj := HCC.out j _ hgj
                  obtain ⟨u, hu⟩ : ∃ u, T'[j] = u := ⟨_, rfl⟩
                  rw [hu] at cj hgj
                  have GJ := Lib.hid hgj
                  clear hu hgj
                  by_cases hvu : u < v
                  · have hd : decide (u < v) = true := decide_eq_true hvu
                    have HVU := Lib.hid hvu
                    go_wp2_with fail
                    go_quiet (fail)
                    go_wp2_with fail
                    go_roundw
                    case rel => exact ⟨j, j + 1, _, rfl, by go_num, by omega, by omega, Lib.hid (fun a y z h hy hz => by
                      have hz' := GJ.out.symm.trans hz
                      simp only [Option.some.injEq] at hz'
                      by_cases e : a = j
                      · rw [e] at hy
                        have hy' := GJ.out.symm.trans hy
                        simp only [Option.some.injEq] at hy'
                        omega
                      · have h1 := HMIN.out a y v (by omega) hy GK.out
                        have h2 := HVU.out
                        omega), rfl⟩
                    case measure => simp [intOf]; omega
                  · have hd : decide (u < v) = false := decide_eq_false hvu
                    have HVU := Lib.hid hd
                    clear hvu
                    go_wp2_with fail
                    go_quiet (fail)
                    go_wp2_with fail
                    go_roundw
                    case rel => exact ⟨kk, j + 1, _, rfl, by go_num, by omega, by omega, Lib.hid (fun a y z h hy hz => by
                      have hz' := GK.out.symm.trans hz
                      simp only [Option.some.injEq] at hz'
                      by_cases e : a = j
                      · rw [e] at hy
                        have hy' := GJ.out.symm.trans hy
                        simp only [Option.some.injEq] at hy'
                        have h2 := of_decide_eq_false HVU.out
                        omega
                      · have h1 := HMIN.out a y v (by omega) hy GK.out
                        omega), rfl⟩
                    case measure => simp [intOf]; omega
                · obtain rfl : j = T'.length := by omega
                  have hxv : x = v := HLEAST.out v (List.mem_of_getElem? GK.out) (fun z hz => by
                    obtain ⟨a, ha, hza⟩ := List.mem_iff_getElem.1 hz
                    have := HMIN.out a z v ha (by rw [List.getElem?_eq_getElem ha, hza]) GK.out
                    omega)
                  subst hxv
                  obtain ⟨m1, m2, m3⟩ := cut_mem HND.out GK.out
                  have M1 := Lib.hid m1
                  have M2 := Lib.hid m2
                  have hm3 : (T'.take kk ++ T'.drop (kk + 1)).length ≤ i := by omega
                  clear m1 m2 m3 hlt HMIN hjl HLEAST HCC
                  go_wp2_with fail
                  generalize hwq : World.drewN w5 n5 = wq
                  have HWq : Hid (WqI (okL w1.heap.size (.slice pe E'.length ce) (.slice (some ⟨g, 0, none⟩) T'.length ct)) wq wb E (delS N x)) := Lib.hid (by rw [← hwq]; exact HW5.out)
                  have HEq : Hid (OwnC cI 3 wq w1.heap.size (.slice pe E'.length ce) E') := Lib.hid (by rw [← hwq]; exact HE5.out)
                  have HTq : Hid (OwnC cI 3 wq w1.heap.size (.slice (some ⟨g, 0, none⟩) T'.length ct) T') := Lib.hid (by rw [← hwq]; exact HT5.out)
                  have HBq : Hid (Below w1.heap.size w1 wq) := Lib.hid (by rw [← hwq]; exact HB5.out.trans (below_drewN _ _ _))
                  have HBWq : Hid (w1.heap.size ≤ wq.heap.size) := Lib.hid (by rw [← hwq]; exact HBW5.out)
                  have hkc : kk ≤ ct := by omega
                  have hkc' : (kk : Int) ≤ (ct : Int) := by omega
                  have hk1 : (kk : Int) + 1 ≤ (T'.length : Int) := by omega
                  have hk2 : kk + 1 ≤ T'.length := by omega
                  have hwr : IntKind.i64.wrap ((kk : Int) + 1) = (kk : Int) + 1 := IntWalk.i64_in _ (by omega)
                  have hk3 : (0 : Int) ≤ (kk : Int) + 1 := by omega
                  have hwn : ((kk : Int) + 1).toNat = kk + 1 := by omega
                  have E1 : Hid (RdC cI (fun b => b = g) wq.drew (.slice (some ⟨g, 0, none⟩) kk ct) (T'.take kk)) := Lib.hid (HTq.out.rd_g.front (by omega))
                  have Z1 : Hid (wq.heap.size ≤ wq.drew.heap.size) := Lib.hid (Nat.le_refl _)
                  have hgl := (HTq.out.lt g rfl).2
                  clear hwq HW5 HE5 HT5 HB5 HBW5 ck
                  go_region_law (first
                    | (with_reducible refine step_appC (w := wq.drew) infI one_I (by with_unfolding_all rfl) (.const (.slice none 0 0)) (.tmp 106) (by with_unfolding_all rfl) wq.heap.size (.slice none 0 0) ([] : List Int) (by first | (simp [Act.eval]; done) | simp [Act.eval, Act.put]) (OwnC.nil _ _) _ _ (T'.take kk) (by first | (simp [Act.eval]; done) | simp [Act.eval, Act.put]) E1.out (by simp <;> omega) Z1.out ?_); intro v7 w7 ho7 hg7 hl7; obtain ⟨a7, n7, c7, rfl⟩ := ho7.slice; obtain ⟨f1, f2, f3⟩ := w29 HTq.out hk2 ho7 hg7; have F1 := Lib.hid f1; have F2 := Lib.hid f2; have F3 := Lib.hid f3; clear f1 f2 f3 ho7 hg7 hl7
                    | (with_reducible refine step_appC (w := w7) infI one_I (by with_unfolding_all rfl) (.tmp 107) (.tmp 111) (by with_unfolding_all rfl) wq.heap.size _ (T'.take kk) (by first | (simp [Act.eval]; done) | simp [Act.eval, Act.put]) F1.out _ _ (T'.drop (kk + 1)) (by first | (simp [Act.eval]; done) | (simp [Act.eval] <;> split <;> rfl) | (simp [Act.eval, Act.put] <;> split <;> rfl)) F2.out (by simp <;> omega) F3.out.size ?_); intro v8 w8 ho8 hg8 hl8; obtain ⟨a8, n8, c8', rfl⟩ := ho8.slice; have G1 := Lib.hid ho8; have G2 := Lib.hid (F3.out.grown hg8 F3.out.size (fun z e => (F1.out.lt z e).1)); clear ho8 hg8 hl8)
                  obtain ⟨q1, q2, q3, q4⟩ := app2 HWq.out HEq.out G2.out G1.out HBWq.out
                  have HW8 := Lib.hid q1
                  have HE8 := Lib.hid q2
                  have HT8 := Lib.hid q3
                  have HS8 := Lib.hid q4
                  have HB8 := Lib.hid (HBq.out.trans (G2.out.mono HBWq.out))
                  have HBW8 := Lib.hid (Nat.le_trans HBWq.out G2.out.size)
                  clear q1 q2 q3 q4 G1 G2 HWq HEq HTq HBq HBWq F1 F2 F3 E1 Z1
                  go_wp2_with fail
                  go_roundw
                  case rel => exact ⟨i + 1, E', T'.take kk ++ T'.drop (kk + 1), by go_num, by omega, by omega, by omega, Lib.hid ⟨E, delS N x, HW8.out, HE8.out, HT8.out, HS8.out, HEE.out, (fun y => by rw [delS_mem, HNN.out y, M1.out y]), M2.out, (fun y hy => HTE.out y ((M1.out y).1 hy).1), HELL.out, HBW8.out⟩, HB8⟩
                  case measure => simp [intOf]; omega
          · by_cases hT : T' = []
            · subst hT
              obtain rfl : N = [] := by
                rw [List.eq_nil_iff_forall_not_mem]
                intro y hy
                have := (HNN.out y).1 hy
                cases this
              go_wp2_with fail
              refine (take0_I _ wb E wc HW.out).mono ?_
              rintro e w5 ⟨rfl, rfl⟩
              go_wp2_with fail
              go_roundw
              case rel => exact ⟨i + 1, E', [], by go_num, by omega, by simp, by omega, Lib.hid ⟨E, [], HW.out, HE.out, HT.out, HSEP.out, HEE.out, (fun _ => Iff.rfl), List.nodup_nil, (fun y hy => by cases hy), HELL.out, HBW.out⟩, HBq⟩
              case measure => simp [intOf]; omega
            · have hpos : 0 < T'.length := List.length_pos_iff.2 hT
              have hpos' : (0 : Int) < (T'.length : Int) := by omega
              have hNn : N ≠ [] := by
                rintro rfl
                have := (HNN.out _).2 (List.getElem_mem hpos)
                cases this
              rcases HT.out.cells with ⟨_, e'⟩ | ⟨g, cap', cur, e', _⟩
              · exact absurd e' hT
              simp only [Value.slice.injEq] at e'
              obtain ⟨rfl, e2, rfl⟩ := e'
              clear e2
              go_wp2_with fail
              refine (take_I _ wb E N wc HW.out hNn (by omega)).mono ?_
              rintro e w5 ⟨x, rfl, hxN, hxl, hw5, hk5⟩
              have he5 := own_kp HE.out hk5 (.inl rfl)
              have ht5 := own_kp HT.out hk5 (.inr rfl)
              have HB5 := Lib.hid (HBq.out.trans (hk5.below (fun b hb => hb.1) HBW.out))
              have HBW5 := Lib.hid (Nat.le_trans HBW.out hk5.size)
              have HE5 := Lib.hid he5
              have HT5 := Lib.hid ht5
              have HW5 := Lib.hid hw5
              have HLEAST : Hid (∀ y, y ∈ T' → (∀ z ∈ T', ¬ z < y) → x = y) := Lib.hid (fun y hy hm => take_least HNN.out hxN hxl hy hm)
              obtain ⟨cap5, hcc⟩ : ∃ _u : Unit, ∀ k y, T'[k]? = some y → w5.cell? ⟨g, k, none⟩ = some (.int .i64 y) := ⟨(), by
                rcases ht5.cells with ⟨_, e'⟩ | ⟨g', cap', cur', e', _, _, _, _, _, q, _⟩
                · exact absurd e' hT
                simp only [Value.slice.injEq, Option.some.injEq, Addr.mk.injEq, and_true] at e'
                obtain ⟨rfl, _, _⟩ := e'
                exact q⟩
              have HCC := Lib.hid hcc
              clear hxN hxl hw5 hk5 he5 ht5 hcc HE HT HNEW HW HBq hNn
              go_wp2_with fail
              go_loopw [13, 14] (fun kv jv w2' => ∃ kk j n : Nat, kv = .int .i64 (kk : Int) ∧ jv = .int .i64 (j : Int) ∧ kk < T'.length ∧ j ≤ T'.length ∧ Hid (∀ a y z, a < j → T'[a]? = some y → T'[kk]? = some z → ¬ y < z) ∧ w2' = w5.drewN n) (fun _ jv _ => T'.length - (intOf jv).toNat)
              case atStart => exact ⟨0, 0, 0, rfl, rfl, hpos, by omega, Lib.hid (fun a y z h => absurd h (by omega)), rfl⟩
              case round =>
                obtain ⟨kk, j, n5, rfl, rfl, hkk, hjl, HMIN, rfl⟩ := hrel
                have hkk' : (kk : Int) < (T'.length : Int) := by omega
                have hgk := List.getElem?_eq_getElem hkk
                have ck := HCC.out kk _ hgk
                obtain ⟨v, hv⟩ : ∃ v, T'[kk] = v := ⟨_, rfl⟩
                rw [hv] at ck hgk
                have GK := Lib.hid hgk
                clear hv hgk
                by_cases hlt : j < T'.length
                · have hlt' : (j : Int) < (T'.length : Int) := by omega
                  have hgj := List.getElem?_eq_getElem hlt
                  have cj := HCC.out j _ hgj
                  obtain ⟨u, hu⟩ : ∃ u, T'[j] = u := ⟨_, rfl⟩
                  rw [hu] at cj hgj
                  have GJ := Lib.hid hgj
                  clear hu hgj
                  by_cases hvu : u < v
                  · have hd : decide (u < v) = true := decide_eq_true hvu
                    have HVU := Lib.hid hvu
                    go_wp2_with fail
                    go_quiet (fail)
                    go_wp2_with fail
                    go_roundw
                    case rel => exact ⟨j, j + 1, _, rfl, by go_num, by omega, by omega, Lib.hid (fun a y z h hy hz => by
                      have hz' := GJ.out.symm.trans hz
                      simp only [Option.some.injEq] at hz'
                      by_cases e : a = j
                      · rw [e] at hy
                        have hy' := GJ.out.symm.trans hy
                        simp only [Option.some.injEq] at hy'
                        omega
                      · have h1 := HMIN.out a y v (by omega) hy GK.out
                        have h2 := HVU.out
                        omega), rfl⟩
                    case measure => simp [intOf]; omega
                  · have hd : decide (u < v) = false := decide_eq_false hvu
                    have HVU := Lib.hid hd
                    clear hvu
                    go_wp2_with fail
                    go_quiet (fail)
                    go_wp2_with fail
                    go_roundw
                    case rel => exact ⟨kk, j + 1, _, rfl, by go_num, by omega, by omega, Lib.hid (fun a y z h hy hz => by
                      have hz' := GK.out.symm.trans hz
                      simp only [Option.some.injEq] at hz'
                      by_cases e : a = j
                      · rw [e] at hy
                        have hy' := GJ.out.symm.trans hy
                        simp only [Option.some.injEq] at hy'
                        have h2 := of_decide_eq_false HVU.out
                        omega
                      · have h1 := HMIN.out a y v (by omega) hy GK.out
                        omega), rfl⟩
                    case measure => simp [intOf]; omega
                · obtain rfl : j = T'.length := by omega
                  have hxv : x = v := HLEAST.out v (List.mem_of_getElem? GK.out) (fun z hz => by
                    obtain ⟨a, ha, hza⟩ := List.mem_iff_getElem.1 hz
                    have := HMIN.out a z v ha (by rw [List.getElem?_eq_getElem ha, hza]) GK.out
                    omega)
                  subst hxv
                  obtain ⟨m1, m2, m3⟩ := cut_mem HND.out GK.out
                  have M1 := Lib.hid m1
                  have M2 := Lib.hid m2
                  have hm3 : (T'.take kk ++ T'.drop (kk + 1)).length ≤ i := by omega
                  clear m1 m2 m3 hlt HMIN hjl HLEAST HCC
                  go_wp2_with fail
                  generalize hwq : World.drewN w5 n5 = wq
                  have HWq : Hid (WqI (okL w1.heap.size (.slice pe E'.length ce) (.slice (some ⟨g, 0, none⟩) T'.length ct)) wq wb E (delS N x)) := Lib.hid (by rw [← hwq]; exact HW5.out)
                  have HEq : Hid (OwnC cI 3 wq w1.heap.size (.slice pe E'.length ce) E') := Lib.hid (by rw [← hwq]; exact HE5.out)
                  have HTq : Hid (OwnC cI 3 wq w1.heap.size (.slice (some ⟨g, 0, none⟩) T'.length ct) T') := Lib.hid (by rw [← hwq]; exact HT5.out)
                  have HBq : Hid (Below w1.heap.size w1 wq) := Lib.hid (by rw [← hwq]; exact HB5.out.trans (below_drewN _ _ _))
                  have HBWq : Hid (w1.heap.size ≤ wq.heap.size) := Lib.hid (by rw [← hwq]; exact HBW5.out)
                  have hkc : kk ≤ ct := by omega
                  have hkc' : (kk : Int) ≤ (ct : Int) := by omega
                  have hk1 : (kk : Int) + 1 ≤ (T'.length : Int) := by omega
                  have hk2 : kk + 1 ≤ T'.length := by omega
                  have hwr : IntKind.i64.wrap ((kk : Int) + 1) = (kk : Int) + 1 := IntWalk.i64_in _ (by omega)
                  have hk3 : (0 : Int) ≤ (kk : Int) + 1 := by omega
                  have hwn : ((kk : Int) + 1).toNat = kk + 1 := by omega
                  have E1 : Hid (RdC cI (fun b => b = g) wq.drew (.slice (some ⟨g, 0, none⟩) kk ct) (T'.take kk)) := Lib.hid (HTq.out.rd_g.front (by omega))
                  have Z1 : Hid (wq.heap.size ≤ wq.drew.heap.size) := Lib.hid (Nat.le_refl _)
                  have hgl := (HTq.out.lt g rfl).2
                  clear hwq HW5 HE5 HT5 HB5 HBW5 ck
                  go_region_law (first
                    | (with_reducible refine step_appC (w := wq.drew) infI one_I (by with_unfolding_all rfl) (.const (.slice none 0 0)) (.tmp 106) (by with_unfolding_all rfl) wq.heap.size (.slice none 0 0) ([] : List Int) (by first | (simp [Act.eval]; done) | simp [Act.eval, Act.put]) (OwnC.nil _ _) _ _ (T'.take kk) (by first | (simp [Act.eval]; done) | simp [Act.eval, Act.put]) E1.out (by simp <;> omega) Z1.out ?_); intro v7 w7 ho7 hg7 hl7; obtain ⟨a7, n7, c7, rfl⟩ := ho7.slice; obtain ⟨f1, f2, f3⟩ := w29 HTq.out hk2 ho7 hg7; have F1 := Lib.hid f1; have F2 := Lib.hid f2; have F3 := Lib.hid f3; clear f1 f2 f3 ho7 hg7 hl7
                    | (with_reducible refine step_appC (w := w7) infI one_I (by with_unfolding_all rfl) (.tmp 107) (.tmp 111) (by with_unfolding_all rfl) wq.heap.size _ (T'.take kk) (by first | (simp [Act.eval]; done) | simp [Act.eval, Act.put]) F1.out _ _ (T'.drop (kk + 1)) (by first | (simp [Act.eval]; done) | (simp [Act.eval] <;> split <;> rfl) | (simp [Act.eval, Act.put] <;> split <;> rfl)) F2.out (by simp <;> omega) F3.out.size ?_); intro v8 w8 ho8 hg8 hl8; obtain ⟨a8, n8, c8', rfl⟩ := ho8.slice; have G1 := Lib.hid ho8; have G2 := Lib.hid (F3.out.grown hg8 F3.out.size (fun z e => (F1.out.lt z e).1)); clear ho8 hg8 hl8)
                  obtain ⟨q1, q2, q3, q4⟩ := app2 HWq.out HEq.out G2.out G1.out HBWq.out
                  have HW8 := Lib.hid q1
                  have HE8 := Lib.hid q2
                  have HT8 := Lib.hid q3
                  have HS8 := Lib.hid q4
                  have HB8 := Lib.hid (HBq.out.trans (G2.out.mono HBWq.out))
                  have HBW8 := Lib.hid (Nat.le_trans HBWq.out G2.out.size)
                  clear q1 q2 q3 q4 G1 G2 HWq HEq HTq HBq HBWq F1 F2 F3 E1 Z1
                  go_wp2_with fail
                  go_roundw
                  case rel => exact ⟨i + 1, E', T'.take kk ++ T'.drop (kk + 1), by go_num, by omega, by omega, by omega, Lib.hid ⟨E, delS N x, HW8.out, HE8.out, HT8.out, HS8.out, HEE.out, (fun y => by rw [delS_mem, HNN.out y, M1.out y]), M2.out, (fun y hy => HTE.out y ((M1.out y).1 hy).1), HELL.out, HBW8.out⟩, HB8⟩
                  case measure => simp [intOf]; omega
      · have hge : (xs.length : Int) + (ac.length : Int) ≤ (i : Int) := by omega
        go_wp2
        go_ret
        exact ⟨rfl, HBr.out⟩
end Go.Proofs.Ytejjmbfbjagifaa.S
