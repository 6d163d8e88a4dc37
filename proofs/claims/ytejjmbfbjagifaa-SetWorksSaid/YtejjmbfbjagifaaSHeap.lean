/- A Work's heap: lesser, rise, sink. -/
import Derived.Test.YtejjmbfbjagifaaSSet
namespace Go.Proofs.Ytejjmbfbjagifaa.S
open Go.RowKit Go.Maps

/-- the lesser of the places i and k -/
def lsr {α : Type} (lt : α → α → Bool) (d : α) (h : List α) (i k : Nat) : Nat := if k < h.length ∧ lt (at' d h k) (at' d h i) = true then k else i

theorem lsr_two {α : Type} {lt : α → α → Bool} (T : TO lt) (d : α) (h : List α) (k l1 l2 : Nat) (e1 : lsr lt d h k (2 * k + 1) = l1) (e2 : lsr lt d h l1 (2 * k + 2) = l2) :
    (2 * k + 2 < h.length → l1 < h.length) ∧ (l2 = k → ∀ m, 0 < m → m < h.length → (m - 1) / 2 = k → lt (at' d h m) (at' d h k) = false) ∧
    (l2 ≠ k → 0 < l2 ∧ l2 < h.length ∧ (l2 - 1) / 2 = k ∧ lt (at' d h l2) (at' d h k) = true ∧ ∀ m, 0 < m → m < h.length → (m - 1) / 2 = k → lt (at' d h m) (at' d h l2) = false) := by
  have hm : ∀ m, 0 < m → (m - 1) / 2 = k → m = 2 * k + 1 ∨ m = 2 * k + 2 := fun m _ _ => by omega
  unfold lsr at e1 e2
  by_cases c1 : 2 * k + 1 < h.length ∧ lt (at' d h (2 * k + 1)) (at' d h k) = true
  · rw [if_pos c1] at e1
    subst e1
    by_cases c2 : 2 * k + 2 < h.length ∧ lt (at' d h (2 * k + 2)) (at' d h (2 * k + 1)) = true
    · rw [if_pos c2] at e2
      subst e2
      refine ⟨fun _ => c1.1, fun e => by omega, fun _ => ⟨by omega, c2.1, by omega, T.tr c2.2 c1.2, fun m m0 mn hp => ?_⟩⟩
      rcases hm m m0 hp with rfl | rfl
      · exact T.asym c2.2
      · exact T.irr _
    · rw [if_neg c2] at e2
      subst e2
      refine ⟨fun _ => c1.1, fun e => by omega, fun _ => ⟨by omega, c1.1, by omega, c1.2, fun m m0 mn hp => ?_⟩⟩
      rcases hm m m0 hp with rfl | rfl
      · exact T.irr _
      · exact Bool.eq_false_iff.2 (fun h => c2 ⟨mn, h⟩)
  · rw [if_neg c1] at e1
    subst e1
    by_cases c2 : 2 * k + 2 < h.length ∧ lt (at' d h (2 * k + 2)) (at' d h k) = true
    · rw [if_pos c2] at e2
      subst e2
      refine ⟨fun _ => by omega, fun e => by omega, fun _ => ⟨by omega, c2.1, by omega, c2.2, fun m m0 mn hp => ?_⟩⟩
      rcases hm m m0 hp with rfl | rfl
      · exact Bool.eq_false_iff.2 (fun h' => c1 ⟨mn, T.tr h' c2.2⟩)
      · exact T.irr _
    · rw [if_neg c2] at e2
      subst e2
      refine ⟨fun _ => by omega, fun _ m m0 mn hp => ?_, fun hne => absurd rfl hne⟩
      rcases hm m m0 hp with rfl | rfl
      · exact Bool.eq_false_iff.2 (fun h => c1 ⟨mn, h⟩)
      · exact Bool.eq_false_iff.2 (fun h => c2 ⟨mn, h⟩)

/-- a Work's box in block wb, its heap in sl reads as H -/
def HwI (w : World) (B wb : Nat) (p0 p1 sl : Value) (H : List Int) : Prop :=
  w.heap[wb]? = some (.cells #[p0, p1, sl] 70 (0, 0)) ∧ OwnC cI 3 w B sl H ∧ sl.ownBlock ≠ some wb
theorem HwI.drewN {w : World} {B wb : Nat} {p0 p1 sl : Value} {H : List Int} (h : HwI w B wb p0 p1 sl H) (n : Nat) : HwI (w.drewN n) B wb p0 p1 sl H := h
theorem HwI.cells {w : World} {B wb : Nat} {p0 p1 sl : Value} {H : List Int} (h : HwI w B wb p0 p1 sl H) : wb < w.heap.size ∧ w.cell? ⟨wb, 0, none⟩ = some p0 ∧ w.cell? ⟨wb, 1, none⟩ = some p1 ∧ w.cell? ⟨wb, 2, none⟩ = some sl ∧ w.frozen? ⟨wb, 2, none⟩ = false := by
  obtain ⟨h1, _⟩ := h
  refine ⟨(Array.getElem?_eq_some_iff.1 h1).1, ?_, ?_, ?_, ?_⟩
  · simp [World.cell?, h1]
  · simp [World.cell?, h1]
  · simp [World.cell?, h1]
  · simp [World.frozen?, h1]

set_option maxHeartbeats 1000000 in
set_option maxRecDepth 100000 in
theorem lesser_I (B wb : Nat) (p0 p1 sl : Value) (H : List Int) (d : Int) (i k : Nat) (w : World) (h : HwI w B wb p0 p1 sl H) (hi : k < H.length → i < H.length) :
    Calls Try.prog 49 #[.pointer (some ⟨wb, 0, none⟩), .int .i64 (i : Int), .int .i64 (k : Int)] w fun e w' => e = .returned (.int .i64 (lsr ltI d H i k : Nat)) ∧ ∃ q, w' = w.drewN q := by
  obtain ⟨hlt, c0, c1, c2, f2⟩ := h.cells
  rcases h.2.1.cells with ⟨rfl, rfl⟩ | ⟨g, cap, cur, rfl, hb, hg, _, h1, h2, h3, h4, _⟩
  · have hd : decide ((k : Int) < 0) = false := decide_eq_false (by omega)
    have he : lsr ltI d [] i k = i := by unfold lsr; rw [if_neg (by simp)]
    go_enter Try.func49, Try.ntmps49
    go_wp2_with fail
    go_quiet (fail)
    go_wp2
    go_ret
    exact ⟨ret_int (by rw [he]), _, rfl⟩
  · by_cases hk : k < H.length
    · have hi' := hi hk
      have ck : w.cell? ⟨g, k, none⟩ = some (.int .i64 H[k]) := h3 k _ (List.getElem?_eq_getElem hk)
      have ci : w.cell? ⟨g, i, none⟩ = some (.int .i64 H[i]) := h3 i _ (List.getElem?_eq_getElem hi')
      obtain ⟨x, hx⟩ : ∃ x, H[k] = x := ⟨_, rfl⟩
      obtain ⟨y, hy⟩ : ∃ y, H[i] = y := ⟨_, rfl⟩
      have he : lsr ltI d H i k = if ltI x y = true then k else i := by
        unfold lsr
        rw [at'_some (List.getElem?_eq_getElem hk), at'_some (List.getElem?_eq_getElem hi'), hx, hy]
        simp [hk]
      rw [hx] at ck
      rw [hy] at ci
      have HE := Lib.hid he
      have hk' : (k : Int) < (H.length : Int) := by omega
      have hi2 : (i : Int) < (H.length : Int) := by omega
      obtain ⟨r, hr⟩ : ∃ r, ltI x y = r := ⟨_, rfl⟩
      clear he h3 h4 hx hy h hk hi
      go_enter Try.func49, Try.ntmps49
      go_wp2_with fail
      go_quiet ((go_at_call 48; exact Calls.quiet_of_same (lessq_I x y _)))
      rw [hr]
      rw [hr] at HE
      cases r
      · go_wp2
        go_ret
        exact ⟨ret_int (by rw [HE.out]; rfl), _, rfl⟩
      · go_wp2
        go_ret
        exact ⟨ret_int (by rw [HE.out]; rfl), _, rfl⟩
    · have he : lsr ltI d H i k = i := by unfold lsr; rw [if_neg (fun h => hk h.1)]
      have hd : decide (k < H.length) = false := decide_eq_false (by omega)
      clear hk hi
      go_enter Try.func49, Try.ntmps49
      go_wp2_with fail
      go_quiet (fail)
      go_wp2
      go_ret
      exact ⟨ret_int (by rw [he]), _, rfl⟩

theorem lesserZ_I (B wb : Nat) (p0 p1 sl : Value) (H : List Int) (d : Int) (i k : Nat) (zi zk : Int) (w : World) (h : HwI w B wb p0 p1 sl H) (hi : k < H.length → i < H.length) (ei : zi = i) (ek : zk = k) :
    Calls Try.prog 49 #[.pointer (some ⟨wb, 0, none⟩), .int .i64 zi, .int .i64 zk] w fun e w' => e = .returned (.int .i64 (lsr ltI d H i k : Nat)) ∧ ∃ q, w' = w.drewN q := by
  subst ei
  subst ek
  exact lesser_I B wb p0 p1 sl H d i k w h hi

/-- two places of the heap change -/
theorem HwI.swap {w w' : World} {B wb g n cap i j : Nat} {p0 p1 : Value} {H : List Int} {x y : Int} (h : HwI w B wb p0 p1 (.slice (some ⟨g, 0, none⟩) n cap) H) (hw : w' = (w.setCell ⟨g, i, none⟩ (.int .i64 y)).setCell ⟨g, j, none⟩ (.int .i64 x)) :
    HwI w' B wb p0 p1 (.slice (some ⟨g, 0, none⟩) n cap) (swL H i j x y) ∧ Kpt [g] w w' := by
  have k1 : Kpt [g] w (w.setCell ⟨g, i, none⟩ (.int .i64 y)) := Kpt.set _ _ _ _ _ (by simp)
  have k2 : Kpt [g] (w.setCell ⟨g, i, none⟩ (.int .i64 y)) w' := by rw [hw]; exact Kpt.set _ _ _ _ _ (by simp)
  have k := k1.trans k2 (fun x hx => .inl hx)
  have hne : wb ∉ [g] := by
    have := h.2.2
    simp only [Value.ownBlock, ne_eq, Option.some.injEq] at this
    simp
    exact fun e => this e.symm
  refine ⟨⟨k.block h.1 hne, ?_, h.2.2⟩, k⟩
  rw [hw]
  exact (h.2.1.set i y).set j x

set_option maxHeartbeats 4000000 in
set_option maxRecDepth 100000 in
theorem sink_I (B wb : Nat) (p0 p1 sl : Value) (H0 : List Int) (d : Int) (w : World) (h : HwI w B wb p0 p1 sl H0) (hs : SiF ltI (at' d H0) H0.length 0) (hn : H0.length ≤ 100000) :
    Calls Try.prog 38 #[.pointer (some ⟨wb, 0, none⟩)] w fun e w' => e = .returned (.tuple #[]) ∧ ∃ H', HwI w' B wb p0 p1 sl H' ∧ H'.Perm H0 ∧ Hp ltI d H' ∧ Kpt sl.ownBlock.toList w w' := by
  have HW := Lib.hid h
  have HS := Lib.hid hs
  clear h hs
  go_enter Try.func38, Try.ntmps38
  go_wp2_with fail
  go_loopw [2] (fun v wr => ∃ (k : Nat) (H : List Int), v = .int .i64 (k : Int) ∧ k ≤ H0.length ∧ H.length = H0.length ∧ Hid (HwI wr B wb p0 p1 sl H) ∧ Hid (H.Perm H0) ∧ Hid (SiF ltI (at' d H) H.length k) ∧ Hid (Kpt sl.ownBlock.toList w wr)) (fun v _ => H0.length - (intOf v).toNat)
  case atStart => exact ⟨0, H0, rfl, by omega, rfl, HW, Lib.hid (List.Perm.refl _), HS, Lib.hid (Kpt.refl _ _)⟩
  case round =>
    clear HW HS
    obtain ⟨k, H, rfl, hk, hl, HW, HP, HS, HK⟩ := hrel
    obtain ⟨l1, hl1⟩ : ∃ l, lsr ltI d H k (2 * k + 1) = l := ⟨_, rfl⟩
    obtain ⟨l2, hl2⟩ : ∃ l, lsr ltI d H l1 (2 * k + 2) = l := ⟨_, rfl⟩
    obtain ⟨g1, g2, g3⟩ := lsr_two toI d H k l1 l2 hl1 hl2
    have G2 := Lib.hid g2
    have G3 := Lib.hid g3
    clear g2 g3
    go_wp2_with fail
    refine (lesserZ_I B wb p0 p1 sl H d k (2 * k + 1) _ _ wr HW.out (by omega) rfl (by omega)).mono ?_
    rintro e w1 ⟨rfl, q1, rfl⟩
    rw [hl1]
    go_wp2_with fail
    refine (lesserZ_I B wb p0 p1 sl H d l1 (2 * k + 2) _ _ _ (HW.out.drewN q1) g1 rfl (by omega)).mono ?_
    rintro e w2 ⟨rfl, q2, rfl⟩
    rw [hl2]
    clear hl1 hl2 g1
    obtain ⟨wq, hwq⟩ : ∃ x, x = (wr.drewN q1).drewN q2 := ⟨_, rfl⟩
    rw [← hwq]
    have hq : Hid (HwI wq B wb p0 p1 sl H) := Lib.hid (by rw [hwq]; exact (HW.out.drewN q1).drewN q2)
    have hkq : Hid (Kpt sl.ownBlock.toList w wq) := Lib.hid (by rw [hwq]; exact HK.out.trans (.of_below (S := sl.ownBlock.toList) ((below_drewN _ wr q1).trans (below_drewN _ _ q2))) (fun x hx => .inl hx))
    clear hwq HW HK
    by_cases e : l2 = k
    · subst e
      have G4 := Lib.hid (G2.out rfl)
      clear G2 G3
      go_wp2
      (try simp only [Exit.inBlock, Exit.then])
      refine bodyPost_ret (results_none rfl _ _ _) rfl ?_
      exact ⟨rfl, H, hq.out, HP.out, HS.out.done G4.out, hkq.out⟩
    · obtain ⟨j0, jn, jk, jl, jm⟩ := G3.out e
      have JL := Lib.hid jl
      have JM := Lib.hid jm
      clear G2 G3 jl jm
      have hne : H ≠ [] := by rintro rfl; simp at jn
      rcases hq.out.2.1.cells with ⟨_, e'⟩ | ⟨g, cap, cur, rfl, hb, hg, _, h1, h2, h3, h4, _⟩
      · exact absurd e' hne
      obtain ⟨hlt, c0, c1, c2, f2⟩ := hq.out.cells
      have kn : k < H.length := by omega
      have hxk := h3 k _ (List.getElem?_eq_getElem kn)
      have hxl := h3 l2 _ (List.getElem?_eq_getElem jn)
      have ek := List.getElem?_eq_getElem kn
      have el := List.getElem?_eq_getElem jn
      obtain ⟨x, hx⟩ : ∃ x, H[k] = x := ⟨_, rfl⟩
      obtain ⟨y, hy⟩ : ∃ y, H[l2] = y := ⟨_, rfl⟩
      rw [hx] at hxk ek
      rw [hy] at hxl el
      have EK := Lib.hid ek
      have EL := Lib.hid el
      have ck : wq.cell? ⟨g, k, none⟩ = some (.int .i64 x) := hxk
      have cl : wq.cell? ⟨g, l2, none⟩ = some (.int .i64 y) := hxl
      have fk := h4 k
      have fl := h4 l2
      have ki : (k : Int) < (H.length : Int) := by omega
      have li : (l2 : Int) < (H.length : Int) := by omega
      have eb : ((l2 : Int) == (k : Int)) = false := beq_eq_false_iff_ne.2 (by omega)
      clear h3 h4 hx hy hxk hxl ek el hg hb
      go_wp2_with fail
      go_region
      obtain ⟨r1, r2⟩ := HwI.swap hq.out (i := k) (j := l2) (x := x) (y := y) rfl
      obtain ⟨wz, hwz⟩ : ∃ z, z = ((wq.setCell ⟨g, k, none⟩ (.int .i64 y)).setCell ⟨g, l2, none⟩ (.int .i64 x)).drew := ⟨_, rfl⟩
      rw [← hwz]
      have P1 : Hid (HwI wz B wb p0 p1 (.slice (some ⟨g, 0, none⟩) H.length cap) (swL H k l2 x y)) := Lib.hid (by rw [hwz]; exact r1)
      have P2 : Hid (Kpt [g] wq wz) := Lib.hid (by rw [hwz]; exact r2.drew)
      clear hwz r1 r2 ck cl fk fl c0 c1 c2 f2 eb
      go_wp2_with fail
      go_roundw
      case rel =>
        obtain ⟨s1, s2, s3⟩ := at'_sw (d := d) EK.out EL.out
        refine ⟨l2, swL H k l2 x y, rfl, by omega, by rw [swL_len]; exact hl, P1, Lib.hid ((swL_perm EK.out EL.out).trans HP.out), Lib.hid ?_, Lib.hid (hkq.out.trans P2.out (fun z hz => .inl hz))⟩
        rw [swL_len]
        exact SiF.step toI HS.out j0 jn jk JL.out JM.out (by rw [s1, at'_some EL.out]) (by rw [s2, at'_some EK.out]) s3
      case measure => simp [intOf]; omega

set_option maxHeartbeats 4000000 in
set_option maxRecDepth 100000 in
theorem rise_I (B wb : Nat) (p0 p1 sl : Value) (H0 : List Int) (d : Int) (w : World) (h : HwI w B wb p0 p1 sl H0) (hs : RiF ltI (at' d H0) H0.length (H0.length - 1)) (h0 : H0 ≠ []) (hn : H0.length ≤ 100000) :
    Calls Try.prog 37 #[.pointer (some ⟨wb, 0, none⟩)] w fun e w' => e = .returned (.tuple #[]) ∧ ∃ H', HwI w' B wb p0 p1 sl H' ∧ H'.Perm H0 ∧ Hp ltI d H' ∧ Kpt sl.ownBlock.toList w w' := by
  have hpos : 0 < H0.length := by
    rcases H0 with _ | ⟨a, l⟩
    · exact absurd rfl h0
    · simp
  rcases h.2.1.cells with ⟨_, e'⟩ | ⟨g, cap, cur, rfl, hb, hg, _, h1, h2, _⟩
  · exact absurd e' h0
  obtain ⟨hlt, c0, c1, c2, f2⟩ := h.cells
  have HW := Lib.hid h
  have HS := Lib.hid hs
  clear h hs
  go_enter Try.func37, Try.ntmps37
  go_wp2_with fail
  clear c0 c1 c2 f2 hb hg hlt
  go_loopw [2] (fun v wr => ∃ (k : Nat) (H : List Int), v = .int .i64 (k : Int) ∧ k < H0.length ∧ H.length = H0.length ∧ Hid (HwI wr B wb p0 p1 (.slice (some ⟨g, 0, none⟩) H0.length cap) H) ∧ Hid (H.Perm H0) ∧ Hid (RiF ltI (at' d H) H.length k) ∧ Hid (Kpt [g] w wr)) (fun v _ => (intOf v).toNat)
  case atStart => exact ⟨H0.length - 1, H0, by go_num, by omega, rfl, HW, Lib.hid (List.Perm.refl _), HS, Lib.hid (Kpt.refl _ _)⟩
  case round =>
    clear HW HS
    obtain ⟨k, H, rfl, hk, hl, HW, HP, HS, HK⟩ := hrel
    by_cases h0k : 0 < k
    · have kn : k < H.length := by omega
      obtain ⟨u, hu⟩ : ∃ u, (k - 1) / 2 = u := ⟨_, rfl⟩
      have un : u < H.length := by omega
      have hq : ((k : Int) - 1).tdiv 2 = (u : Int) := by rw [Int.tdiv_eq_ediv_of_nonneg (by omega)]; omega
      obtain ⟨hlt, c0, c1, c2, f2⟩ := HW.out.cells
      rcases HW.out.2.1.cells with ⟨e', _⟩ | ⟨g', cap', cur', e', _, _, _, _, _, h3, h4, _⟩
      · cases e'
      simp only [Value.slice.injEq, Option.some.injEq, Addr.mk.injEq, and_true] at e'
      obtain ⟨rfl, _, rfl⟩ := e'
      have ek := List.getElem?_eq_getElem kn
      have eu := List.getElem?_eq_getElem un
      have hxk := h3 k _ ek
      have hxu := h3 u _ eu
      obtain ⟨x, hx⟩ : ∃ x, H[k] = x := ⟨_, rfl⟩
      obtain ⟨y, hy⟩ : ∃ y, H[u] = y := ⟨_, rfl⟩
      rw [hx] at hxk ek
      rw [hy] at hxu eu
      have EK := Lib.hid ek
      have EU := Lib.hid eu
      have ck : wr.cell? ⟨g, k, none⟩ = some (.int .i64 x) := hxk
      have cu : wr.cell? ⟨g, u, none⟩ = some (.int .i64 y) := hxu
      have fk := h4 k
      have fu := h4 u
      have ki : (k : Int) < (H0.length : Int) := by omega
      have ui : (u : Int) < (H0.length : Int) := by omega
      have une : u ≠ k := by omega
      have kne : k ≠ u := by omega
      have HU := Lib.hid hu
      have hl2 := Lib.hid hl
      obtain ⟨r, hr⟩ : ∃ r, ltI x y = r := ⟨_, rfl⟩
      clear h3 h4 hx hy hxk hxu ek eu hu hl
      go_wp2_with fail
      go_quiet ((go_at_call 48; exact Calls.quiet_of_same (lessq_I x y _)))
      rw [hr]
      obtain ⟨wq, hwq⟩ : ∃ z, z = wr.drewN nq := ⟨_, rfl⟩
      rw [← hwq]
      have hqq : Hid (HwI wq B wb p0 p1 (.slice (some ⟨g, 0, none⟩) H0.length cap) H) := Lib.hid (by rw [hwq]; exact HW.out)
      have hkq : Hid (Kpt [g] w wq) := Lib.hid (by rw [hwq]; exact HK.out.trans (.of_below (S := [g]) (below_drewN _ _ _)) (fun x hx => .inl hx))
      have ck' : wq.cell? ⟨g, k, none⟩ = some (.int .i64 x) := by rw [hwq]; exact ck
      have cu' : wq.cell? ⟨g, u, none⟩ = some (.int .i64 y) := by rw [hwq]; exact cu
      have fk' : wq.frozen? ⟨g, k, none⟩ = false := by rw [hwq]; exact fk
      have fu' : wq.frozen? ⟨g, u, none⟩ = false := by rw [hwq]; exact fu
      have c2' : wq.cell? ⟨wb, 2, none⟩ = some (.slice (some ⟨g, 0, none⟩) H0.length cap) := by rw [hwq]; exact c2
      clear hwq HW HK ck cu fk fu c0 c1 c2 f2 hlt
      cases r
      · have HF := Lib.hid hr
        clear hr
        go_wp2
        (try simp only [Exit.inBlock, Exit.then])
        refine bodyPost_ret (results_none rfl _ _ _) rfl ?_
        exact ⟨rfl, H, hqq.out, HP.out, HS.out.done (fun _ => by rw [HU.out, at'_some EK.out, at'_some EU.out]; exact HF.out), hkq.out⟩
      · have HF := Lib.hid hr
        clear hr
        go_wp2_with fail
        go_region
        obtain ⟨r1, r2⟩ := HwI.swap hqq.out (i := k) (j := u) (x := x) (y := y) rfl
        obtain ⟨wz, hwz⟩ : ∃ z, z = ((wq.setCell ⟨g, k, none⟩ (.int .i64 y)).setCell ⟨g, u, none⟩ (.int .i64 x)).drew := ⟨_, rfl⟩
        rw [← hwz]
        have P1 : Hid (HwI wz B wb p0 p1 (.slice (some ⟨g, 0, none⟩) H0.length cap) (swL H k u x y)) := Lib.hid (by rw [hwz]; exact r1)
        have P2 : Hid (Kpt [g] wq wz) := Lib.hid (by rw [hwz]; exact r2.drew)
        clear hwz r1 r2 ck' cu' fk' fu' c2'
        go_wp2_with fail
        go_roundw
        case rel =>
          obtain ⟨s1, s2, s3⟩ := at'_sw (d := d) EK.out EU.out
          refine ⟨u, swL H k u x y, rfl, by omega, by rw [swL_len]; exact hl2.out, P1, Lib.hid ((swL_perm EK.out EU.out).trans HP.out), Lib.hid ?_, Lib.hid (hkq.out.trans P2.out (fun z hz => .inl hz))⟩
          rw [swL_len]
          have hu := HU.out
          have := RiF.step toI HS.out h0k kn (by rw [hu, at'_some EK.out, at'_some EU.out]; exact HF.out) (f' := at' d (swL H k u x y)) (by rw [s1, hu, at'_some EU.out]) (by rw [hu, s2, at'_some EK.out]) (by rw [hu]; exact s3)
          rw [hu] at this
          exact this
        case measure => have hu := HU.out; simp [intOf]; omega
    · have e0 : k = 0 := by omega
      subst e0
      clear h0k
      go_wp2_with fail
      go_end0
      exact ⟨rfl, H, HW.out, HP.out, HS.out.done (fun h => absurd h (by omega)), HK.out⟩
/-- a Work's box in block wb, its heap in sl reads as H -/
def HwS (w : World) (B wb : Nat) (p0 p1 sl : Value) (H : List ByteArray) : Prop :=
  w.heap[wb]? = some (.cells #[p0, p1, sl] 72 (0, 0)) ∧ OwnC cS 9 w B sl H ∧ sl.ownBlock ≠ some wb
theorem HwS.drewN {w : World} {B wb : Nat} {p0 p1 sl : Value} {H : List ByteArray} (h : HwS w B wb p0 p1 sl H) (n : Nat) : HwS (w.drewN n) B wb p0 p1 sl H := h
theorem HwS.cells {w : World} {B wb : Nat} {p0 p1 sl : Value} {H : List ByteArray} (h : HwS w B wb p0 p1 sl H) : wb < w.heap.size ∧ w.cell? ⟨wb, 0, none⟩ = some p0 ∧ w.cell? ⟨wb, 1, none⟩ = some p1 ∧ w.cell? ⟨wb, 2, none⟩ = some sl ∧ w.frozen? ⟨wb, 2, none⟩ = false := by
  obtain ⟨h1, _⟩ := h
  refine ⟨(Array.getElem?_eq_some_iff.1 h1).1, ?_, ?_, ?_, ?_⟩
  · simp [World.cell?, h1]
  · simp [World.cell?, h1]
  · simp [World.cell?, h1]
  · simp [World.frozen?, h1]

set_option maxHeartbeats 1000000 in
set_option maxRecDepth 100000 in
theorem lesser_S (B wb : Nat) (p0 p1 sl : Value) (H : List ByteArray) (d : ByteArray) (i k : Nat) (w : World) (h : HwS w B wb p0 p1 sl H) (hi : k < H.length → i < H.length) :
    Calls Try.prog 51 #[.pointer (some ⟨wb, 0, none⟩), .int .i64 (i : Int), .int .i64 (k : Int)] w fun e w' => e = .returned (.int .i64 (lsr ltS d H i k : Nat)) ∧ ∃ q, w' = w.drewN q := by
  obtain ⟨hlt, c0, c1, c2, f2⟩ := h.cells
  rcases h.2.1.cells with ⟨rfl, rfl⟩ | ⟨g, cap, cur, rfl, hb, hg, _, h1, h2, h3, h4, _⟩
  · have hd : decide ((k : Int) < 0) = false := decide_eq_false (by omega)
    have he : lsr ltS d [] i k = i := by unfold lsr; rw [if_neg (by simp)]
    go_enter Try.func51, Try.ntmps51
    go_wp2_with fail
    go_quiet (fail)
    go_wp2
    go_ret
    exact ⟨ret_int (by rw [he]), _, rfl⟩
  · by_cases hk : k < H.length
    · have hi' := hi hk
      have ck : w.cell? ⟨g, k, none⟩ = some (.string H[k]) := h3 k _ (List.getElem?_eq_getElem hk)
      have ci : w.cell? ⟨g, i, none⟩ = some (.string H[i]) := h3 i _ (List.getElem?_eq_getElem hi')
      obtain ⟨x, hx⟩ : ∃ x, H[k] = x := ⟨_, rfl⟩
      obtain ⟨y, hy⟩ : ∃ y, H[i] = y := ⟨_, rfl⟩
      have he : lsr ltS d H i k = if ltS x y = true then k else i := by
        unfold lsr
        rw [at'_some (List.getElem?_eq_getElem hk), at'_some (List.getElem?_eq_getElem hi'), hx, hy]
        simp [hk]
      rw [hx] at ck
      rw [hy] at ci
      have HE := Lib.hid he
      have hk' : (k : Int) < (H.length : Int) := by omega
      have hi2 : (i : Int) < (H.length : Int) := by omega
      obtain ⟨r, hr⟩ : ∃ r, ltS x y = r := ⟨_, rfl⟩
      clear he h3 h4 hx hy h hk hi
      go_enter Try.func51, Try.ntmps51
      go_wp2_with fail
      go_quiet ((go_at_call 71; exact Calls.quiet_of_same (lessq_S x y _)))
      rw [hr]
      rw [hr] at HE
      cases r
      · go_wp2
        go_ret
        exact ⟨ret_int (by rw [HE.out]; rfl), _, rfl⟩
      · go_wp2
        go_ret
        exact ⟨ret_int (by rw [HE.out]; rfl), _, rfl⟩
    · have he : lsr ltS d H i k = i := by unfold lsr; rw [if_neg (fun h => hk h.1)]
      have hd : decide (k < H.length) = false := decide_eq_false (by omega)
      clear hk hi
      go_enter Try.func51, Try.ntmps51
      go_wp2_with fail
      go_quiet (fail)
      go_wp2
      go_ret
      exact ⟨ret_int (by rw [he]), _, rfl⟩

theorem lesserZ_S (B wb : Nat) (p0 p1 sl : Value) (H : List ByteArray) (d : ByteArray) (i k : Nat) (zi zk : Int) (w : World) (h : HwS w B wb p0 p1 sl H) (hi : k < H.length → i < H.length) (ei : zi = i) (ek : zk = k) :
    Calls Try.prog 51 #[.pointer (some ⟨wb, 0, none⟩), .int .i64 zi, .int .i64 zk] w fun e w' => e = .returned (.int .i64 (lsr ltS d H i k : Nat)) ∧ ∃ q, w' = w.drewN q := by
  subst ei
  subst ek
  exact lesser_S B wb p0 p1 sl H d i k w h hi

/-- two places of the heap change -/
theorem HwS.swap {w w' : World} {B wb g n cap i j : Nat} {p0 p1 : Value} {H : List ByteArray} {x y : ByteArray} (h : HwS w B wb p0 p1 (.slice (some ⟨g, 0, none⟩) n cap) H) (hw : w' = (w.setCell ⟨g, i, none⟩ (.string y)).setCell ⟨g, j, none⟩ (.string x)) :
    HwS w' B wb p0 p1 (.slice (some ⟨g, 0, none⟩) n cap) (swL H i j x y) ∧ Kpt [g] w w' := by
  have k1 : Kpt [g] w (w.setCell ⟨g, i, none⟩ (.string y)) := Kpt.set _ _ _ _ _ (by simp)
  have k2 : Kpt [g] (w.setCell ⟨g, i, none⟩ (.string y)) w' := by rw [hw]; exact Kpt.set _ _ _ _ _ (by simp)
  have k := k1.trans k2 (fun x hx => .inl hx)
  have hne : wb ∉ [g] := by
    have := h.2.2
    simp only [Value.ownBlock, ne_eq, Option.some.injEq] at this
    simp
    exact fun e => this e.symm
  refine ⟨⟨k.block h.1 hne, ?_, h.2.2⟩, k⟩
  rw [hw]
  exact (h.2.1.set i y).set j x

set_option maxHeartbeats 4000000 in
set_option maxRecDepth 100000 in
theorem sink_S (B wb : Nat) (p0 p1 sl : Value) (H0 : List ByteArray) (d : ByteArray) (w : World) (h : HwS w B wb p0 p1 sl H0) (hs : SiF ltS (at' d H0) H0.length 0) (hn : H0.length ≤ 100000) :
    Calls Try.prog 41 #[.pointer (some ⟨wb, 0, none⟩)] w fun e w' => e = .returned (.tuple #[]) ∧ ∃ H', HwS w' B wb p0 p1 sl H' ∧ H'.Perm H0 ∧ Hp ltS d H' ∧ Kpt sl.ownBlock.toList w w' := by
  have HW := Lib.hid h
  have HS := Lib.hid hs
  clear h hs
  go_enter Try.func41, Try.ntmps41
  go_wp2_with fail
  go_loopw [2] (fun v wr => ∃ (k : Nat) (H : List ByteArray), v = .int .i64 (k : Int) ∧ k ≤ H0.length ∧ H.length = H0.length ∧ Hid (HwS wr B wb p0 p1 sl H) ∧ Hid (H.Perm H0) ∧ Hid (SiF ltS (at' d H) H.length k) ∧ Hid (Kpt sl.ownBlock.toList w wr)) (fun v _ => H0.length - (intOf v).toNat)
  case atStart => exact ⟨0, H0, rfl, by omega, rfl, HW, Lib.hid (List.Perm.refl _), HS, Lib.hid (Kpt.refl _ _)⟩
  case round =>
    clear HW HS
    obtain ⟨k, H, rfl, hk, hl, HW, HP, HS, HK⟩ := hrel
    obtain ⟨l1, hl1⟩ : ∃ l, lsr ltS d H k (2 * k + 1) = l := ⟨_, rfl⟩
    obtain ⟨l2, hl2⟩ : ∃ l, lsr ltS d H l1 (2 * k + 2) = l := ⟨_, rfl⟩
    obtain ⟨g1, g2, g3⟩ := lsr_two toS d H k l1 l2 hl1 hl2
    have G2 := Lib.hid g2
    have G3 := Lib.hid g3
    clear g2 g3
    go_wp2_with fail
    refine (lesserZ_S B wb p0 p1 sl H d k (2 * k + 1) _ _ wr HW.out (by omega) rfl (by omega)).mono ?_
    rintro e w1 ⟨rfl, q1, rfl⟩
    rw [hl1]
    go_wp2_with fail
    refine (lesserZ_S B wb p0 p1 sl H d l1 (2 * k + 2) _ _ _ (HW.out.drewN q1) g1 rfl (by omega)).mono ?_
    rintro e w2 ⟨rfl, q2, rfl⟩
    rw [hl2]
    clear hl1 hl2 g1
    obtain ⟨wq, hwq⟩ : ∃ x, x = (wr.drewN q1).drewN q2 := ⟨_, rfl⟩
    rw [← hwq]
    have hq : Hid (HwS wq B wb p0 p1 sl H) := Lib.hid (by rw [hwq]; exact (HW.out.drewN q1).drewN q2)
    have hkq : Hid (Kpt sl.ownBlock.toList w wq) := Lib.hid (by rw [hwq]; exact HK.out.trans (.of_below (S := sl.ownBlock.toList) ((below_drewN _ wr q1).trans (below_drewN _ _ q2))) (fun x hx => .inl hx))
    clear hwq HW HK
    by_cases e : l2 = k
    · subst e
      have G4 := Lib.hid (G2.out rfl)
      clear G2 G3
      go_wp2
      (try simp only [Exit.inBlock, Exit.then])
      refine bodyPost_ret (results_none rfl _ _ _) rfl ?_
      exact ⟨rfl, H, hq.out, HP.out, HS.out.done G4.out, hkq.out⟩
    · obtain ⟨j0, jn, jk, jl, jm⟩ := G3.out e
      have JL := Lib.hid jl
      have JM := Lib.hid jm
      clear G2 G3 jl jm
      have hne : H ≠ [] := by rintro rfl; simp at jn
      rcases hq.out.2.1.cells with ⟨_, e'⟩ | ⟨g, cap, cur, rfl, hb, hg, _, h1, h2, h3, h4, _⟩
      · exact absurd e' hne
      obtain ⟨hlt, c0, c1, c2, f2⟩ := hq.out.cells
      have kn : k < H.length := by omega
      have hxk := h3 k _ (List.getElem?_eq_getElem kn)
      have hxl := h3 l2 _ (List.getElem?_eq_getElem jn)
      have ek := List.getElem?_eq_getElem kn
      have el := List.getElem?_eq_getElem jn
      obtain ⟨x, hx⟩ : ∃ x, H[k] = x := ⟨_, rfl⟩
      obtain ⟨y, hy⟩ : ∃ y, H[l2] = y := ⟨_, rfl⟩
      rw [hx] at hxk ek
      rw [hy] at hxl el
      have EK := Lib.hid ek
      have EL := Lib.hid el
      have ck : wq.cell? ⟨g, k, none⟩ = some (.string x) := hxk
      have cl : wq.cell? ⟨g, l2, none⟩ = some (.string y) := hxl
      have fk := h4 k
      have fl := h4 l2
      have ki : (k : Int) < (H.length : Int) := by omega
      have li : (l2 : Int) < (H.length : Int) := by omega
      have eb : ((l2 : Int) == (k : Int)) = false := beq_eq_false_iff_ne.2 (by omega)
      clear h3 h4 hx hy hxk hxl ek el hg hb
      go_wp2_with fail
      go_region
      obtain ⟨r1, r2⟩ := HwS.swap hq.out (i := k) (j := l2) (x := x) (y := y) rfl
      obtain ⟨wz, hwz⟩ : ∃ z, z = ((wq.setCell ⟨g, k, none⟩ (.string y)).setCell ⟨g, l2, none⟩ (.string x)).drew := ⟨_, rfl⟩
      rw [← hwz]
      have P1 : Hid (HwS wz B wb p0 p1 (.slice (some ⟨g, 0, none⟩) H.length cap) (swL H k l2 x y)) := Lib.hid (by rw [hwz]; exact r1)
      have P2 : Hid (Kpt [g] wq wz) := Lib.hid (by rw [hwz]; exact r2.drew)
      clear hwz r1 r2 ck cl fk fl c0 c1 c2 f2 eb
      go_wp2_with fail
      go_roundw
      case rel =>
        obtain ⟨s1, s2, s3⟩ := at'_sw (d := d) EK.out EL.out
        refine ⟨l2, swL H k l2 x y, rfl, by omega, by rw [swL_len]; exact hl, P1, Lib.hid ((swL_perm EK.out EL.out).trans HP.out), Lib.hid ?_, Lib.hid (hkq.out.trans P2.out (fun z hz => .inl hz))⟩
        rw [swL_len]
        exact SiF.step toS HS.out j0 jn jk JL.out JM.out (by rw [s1, at'_some EL.out]) (by rw [s2, at'_some EK.out]) s3
      case measure => simp [intOf]; omega

set_option maxHeartbeats 4000000 in
set_option maxRecDepth 100000 in
theorem rise_S (B wb : Nat) (p0 p1 sl : Value) (H0 : List ByteArray) (d : ByteArray) (w : World) (h : HwS w B wb p0 p1 sl H0) (hs : RiF ltS (at' d H0) H0.length (H0.length - 1)) (h0 : H0 ≠ []) (hn : H0.length ≤ 100000) :
    Calls Try.prog 70 #[.pointer (some ⟨wb, 0, none⟩)] w fun e w' => e = .returned (.tuple #[]) ∧ ∃ H', HwS w' B wb p0 p1 sl H' ∧ H'.Perm H0 ∧ Hp ltS d H' ∧ Kpt sl.ownBlock.toList w w' := by
  have hpos : 0 < H0.length := by
    rcases H0 with _ | ⟨a, l⟩
    · exact absurd rfl h0
    · simp
  rcases h.2.1.cells with ⟨_, e'⟩ | ⟨g, cap, cur, rfl, hb, hg, _, h1, h2, _⟩
  · exact absurd e' h0
  obtain ⟨hlt, c0, c1, c2, f2⟩ := h.cells
  have HW := Lib.hid h
  have HS := Lib.hid hs
  clear h hs
  go_enter Try.func70, Try.ntmps70
  go_wp2_with fail
  clear c0 c1 c2 f2 hb hg hlt
  go_loopw [2] (fun v wr => ∃ (k : Nat) (H : List ByteArray), v = .int .i64 (k : Int) ∧ k < H0.length ∧ H.length = H0.length ∧ Hid (HwS wr B wb p0 p1 (.slice (some ⟨g, 0, none⟩) H0.length cap) H) ∧ Hid (H.Perm H0) ∧ Hid (RiF ltS (at' d H) H.length k) ∧ Hid (Kpt [g] w wr)) (fun v _ => (intOf v).toNat)
  case atStart => exact ⟨H0.length - 1, H0, by go_num, by omega, rfl, HW, Lib.hid (List.Perm.refl _), HS, Lib.hid (Kpt.refl _ _)⟩
  case round =>
    clear HW HS
    obtain ⟨k, H, rfl, hk, hl, HW, HP, HS, HK⟩ := hrel
    by_cases h0k : 0 < k
    · have kn : k < H.length := by omega
      obtain ⟨u, hu⟩ : ∃ u, (k - 1) / 2 = u := ⟨_, rfl⟩
      have un : u < H.length := by omega
      have hq : ((k : Int) - 1).tdiv 2 = (u : Int) := by rw [Int.tdiv_eq_ediv_of_nonneg (by omega)]; omega
      obtain ⟨hlt, c0, c1, c2, f2⟩ := HW.out.cells
      rcases HW.out.2.1.cells with ⟨e', _⟩ | ⟨g', cap', cur', e', _, _, _, _, _, h3, h4, _⟩
      · cases e'
      simp only [Value.slice.injEq, Option.some.injEq, Addr.mk.injEq, and_true] at e'
      obtain ⟨rfl, _, rfl⟩ := e'
      have ek := List.getElem?_eq_getElem kn
      have eu := List.getElem?_eq_getElem un
      have hxk := h3 k _ ek
      have hxu := h3 u _ eu
      obtain ⟨x, hx⟩ : ∃ x, H[k] = x := ⟨_, rfl⟩
      obtain ⟨y, hy⟩ : ∃ y, H[u] = y := ⟨_, rfl⟩
      rw [hx] at hxk ek
      rw [hy] at hxu eu
      have EK := Lib.hid ek
      have EU := Lib.hid eu
      have ck : wr.cell? ⟨g, k, none⟩ = some (.string x) := hxk
      have cu : wr.cell? ⟨g, u, none⟩ = some (.string y) := hxu
      have fk := h4 k
      have fu := h4 u
      have ki : (k : Int) < (H0.length : Int) := by omega
      have ui : (u : Int) < (H0.length : Int) := by omega
      have une : u ≠ k := by omega
      have kne : k ≠ u := by omega
      have HU := Lib.hid hu
      have hl2 := Lib.hid hl
      obtain ⟨r, hr⟩ : ∃ r, ltS x y = r := ⟨_, rfl⟩
      clear h3 h4 hx hy hxk hxu ek eu hu hl
      go_wp2_with fail
      go_quiet ((go_at_call 71; exact Calls.quiet_of_same (lessq_S x y _)))
      rw [hr]
      obtain ⟨wq, hwq⟩ : ∃ z, z = wr.drewN nq := ⟨_, rfl⟩
      rw [← hwq]
      have hqq : Hid (HwS wq B wb p0 p1 (.slice (some ⟨g, 0, none⟩) H0.length cap) H) := Lib.hid (by rw [hwq]; exact HW.out)
      have hkq : Hid (Kpt [g] w wq) := Lib.hid (by rw [hwq]; exact HK.out.trans (.of_below (S := [g]) (below_drewN _ _ _)) (fun x hx => .inl hx))
      have ck' : wq.cell? ⟨g, k, none⟩ = some (.string x) := by rw [hwq]; exact ck
      have cu' : wq.cell? ⟨g, u, none⟩ = some (.string y) := by rw [hwq]; exact cu
      have fk' : wq.frozen? ⟨g, k, none⟩ = false := by rw [hwq]; exact fk
      have fu' : wq.frozen? ⟨g, u, none⟩ = false := by rw [hwq]; exact fu
      have c2' : wq.cell? ⟨wb, 2, none⟩ = some (.slice (some ⟨g, 0, none⟩) H0.length cap) := by rw [hwq]; exact c2
      clear hwq HW HK ck cu fk fu c0 c1 c2 f2 hlt
      cases r
      · have HF := Lib.hid hr
        clear hr
        go_wp2
        (try simp only [Exit.inBlock, Exit.then])
        refine bodyPost_ret (results_none rfl _ _ _) rfl ?_
        exact ⟨rfl, H, hqq.out, HP.out, HS.out.done (fun _ => by rw [HU.out, at'_some EK.out, at'_some EU.out]; exact HF.out), hkq.out⟩
      · have HF := Lib.hid hr
        clear hr
        go_wp2_with fail
        go_region
        obtain ⟨r1, r2⟩ := HwS.swap hqq.out (i := k) (j := u) (x := x) (y := y) rfl
        obtain ⟨wz, hwz⟩ : ∃ z, z = ((wq.setCell ⟨g, k, none⟩ (.string y)).setCell ⟨g, u, none⟩ (.string x)).drew := ⟨_, rfl⟩
        rw [← hwz]
        have P1 : Hid (HwS wz B wb p0 p1 (.slice (some ⟨g, 0, none⟩) H0.length cap) (swL H k u x y)) := Lib.hid (by rw [hwz]; exact r1)
        have P2 : Hid (Kpt [g] wq wz) := Lib.hid (by rw [hwz]; exact r2.drew)
        clear hwz r1 r2 ck' cu' fk' fu' c2'
        go_wp2_with fail
        go_roundw
        case rel =>
          obtain ⟨s1, s2, s3⟩ := at'_sw (d := d) EK.out EU.out
          refine ⟨u, swL H k u x y, rfl, by omega, by rw [swL_len]; exact hl2.out, P1, Lib.hid ((swL_perm EK.out EU.out).trans HP.out), Lib.hid ?_, Lib.hid (hkq.out.trans P2.out (fun z hz => .inl hz))⟩
          rw [swL_len]
          have hu := HU.out
          have := RiF.step toS HS.out h0k kn (by rw [hu, at'_some EK.out, at'_some EU.out]; exact HF.out) (f' := at' d (swL H k u x y)) (by rw [s1, hu, at'_some EU.out]) (by rw [hu, s2, at'_some EK.out]) (by rw [hu]; exact s3)
          rw [hu] at this
          exact this
        case measure => have hu := HU.out; simp [intOf]; omega
    · have e0 : k = 0 := by omega
      subst e0
      clear h0k
      go_wp2_with fail
      go_end0
      exact ⟨rfl, H, HW.out, HP.out, HS.out.done (fun h => absurd h (by omega)), HK.out⟩
end Go.Proofs.Ytejjmbfbjagifaa.S
