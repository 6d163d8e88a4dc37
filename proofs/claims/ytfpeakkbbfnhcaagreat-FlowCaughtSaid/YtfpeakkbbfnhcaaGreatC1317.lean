/- Texts that the proof is made of, joined. No condition. -/
import Derived.Test.YtfpeakkbbfnhcaaGreatC133
import Derived.Deep.DeepCutAuto
import Derived.Test.YtfpeakkbbfnhcaaGreatC1316
import Derived.Test.YtfpeakkbbfnhcaaGreatC131
import Derived.Test.YtfpeakkbbfnhcaaGreatC13H
set_option linter.unusedVariables false
set_option linter.unusedSimpArgs false
set_option maxRecDepth 100000
set_option maxHeartbeats 16000000
namespace Go.Proofs.YtfpeakkbbfnhcaaGreat.S
open Go.RowKit Go.Maps
def lsr {α : Type} (lt : α -> α -> Bool) (d : α) (h : List α) (i k : Nat) : Nat := if k < h.length /\ lt (at' d h k) (at' d h i) = true then k else i
theorem lsr_two {α : Type} {lt : α -> α -> Bool} (T : TO lt) (d : α) (h : List α) (k l1 l2 : Nat) (e1 : lsr lt d h k (2 * k + 1) = l1) (e2 : lsr lt d h l1 (2 * k + 2) = l2) :
  (2 * k + 2 < h.length -> l1 < h.length) /\ (l2 = k -> ∀ m,0 < m -> m < h.length -> (m - 1) / 2 = k -> lt (at' d h m) (at' d h k) = false) /\
  (l2 ≠ k -> 0 < l2 /\ l2 < h.length /\ (l2 - 1) / 2 = k /\ lt (at' d h l2) (at' d h k) = true /\ ∀ m,0 < m -> m < h.length -> (m - 1) / 2 = k -> lt (at' d h m) (at' d h l2) = false) := by
 have hm : ∀ m,0 < m -> (m - 1) / 2 = k -> m = 2 * k + 1 ∨ m = 2 * k + 2 := fun m _ _ => by omega
 unfold lsr at e1 e2
 by_cases c1 : 2 * k + 1 < h.length /\ lt (at' d h (2 * k + 1)) (at' d h k) = true
 ·rw [if_pos c1] at e1
  subst e1
  by_cases c2 : 2 * k + 2 < h.length /\ lt (at' d h (2 * k + 2)) (at' d h (2 * k + 1)) = true
  ·rw [if_pos c2] at e2
   subst e2
   refine ⟨fun _ => c1.1,fun e => by omega,fun _ => ⟨by omega,c2.1,by omega,T.tr c2.2 c1.2,fun m m0 mn hp => ?_⟩⟩
   rcases hm m m0 hp with rfl | rfl
   ·exact T.asym c2.2
   ·exact T.irr _
  ·rw [if_neg c2] at e2
   subst e2
   refine ⟨fun _ => c1.1,fun e => by omega,fun _ => ⟨by omega,c1.1,by omega,c1.2,fun m m0 mn hp => ?_⟩⟩
   rcases hm m m0 hp with rfl | rfl
   ·exact T.irr _
   ·exact Bool.eq_false_iff.2 (fun h => c2 ⟨mn,h⟩)
 ·rw [if_neg c1] at e1
  subst e1
  by_cases c2 : 2 * k + 2 < h.length /\ lt (at' d h (2 * k + 2)) (at' d h k) = true
  ·rw [if_pos c2] at e2
   subst e2
   refine ⟨fun _ => by omega,fun e => by omega,fun _ => ⟨by omega,c2.1,by omega,c2.2,fun m m0 mn hp => ?_⟩⟩
   rcases hm m m0 hp with rfl | rfl
   ·exact Bool.eq_false_iff.2 (fun h' => c1 ⟨mn,T.tr h' c2.2⟩)
   ·exact T.irr _
  ·rw [if_neg c2] at e2
   subst e2
   refine ⟨fun _ => by omega,fun _ m m0 mn hp => ?_,fun hne => absurd rfl hne⟩
   rcases hm m m0 hp with rfl | rfl
   ·exact Bool.eq_false_iff.2 (fun h => c1 ⟨mn,h⟩)
   ·exact Bool.eq_false_iff.2 (fun h => c2 ⟨mn,h⟩)
def HwI (w : World) (B wb : Nat) (p0 p1 sl : Value) (H : List Int) : Prop :=
 w.heap[wb]? = some (.cells #[p0,p1,sl] 155 (0,0)) /\ OwnC cI 3 w B sl H /\ sl.ownBlock ≠ some wb
theorem HwI.drewN {w : World} {B wb : Nat} {p0 p1 sl : Value} {H : List Int} (h : HwI w B wb p0 p1 sl H) (n : Nat) : HwI (w.drewN n) B wb p0 p1 sl H := h
theorem HwI.cells {w : World} {B wb : Nat} {p0 p1 sl : Value} {H : List Int} (h : HwI w B wb p0 p1 sl H) : wb < w.heap.size /\ w.cell? ⟨wb,0,none⟩ = some p0 /\ w.cell? ⟨wb,1,none⟩ = some p1 /\ w.cell? ⟨wb,2,none⟩ = some sl /\ w.frozen? ⟨wb,2,none⟩ = false := by
 obtain ⟨h1,_⟩ := h
 refine ⟨(Array.getElem?_eq_some_iff.1 h1).1,?_,?_,?_,?_⟩
 ·simp [World.cell?,h1]
 ·simp [World.cell?,h1]
 ·simp [World.cell?,h1]
 ·simp [World.frozen?,h1]
theorem lesser_I (B wb : Nat) (p0 p1 sl : Value) (H : List Int) (d : Int) (i k : Nat) (w : World) (h : HwI w B wb p0 p1 sl H) (hi : k < H.length -> i < H.length) :
  Calls Tryz.prog 134 #[.pointer (some ⟨wb,0,none⟩),.int .i64 (i : Int),.int .i64 (k : Int)] w fun e w' => e = .returned (.int .i64 (lsr ltI d H i k : Nat)) /\ ∃ q,w' = w.drewN q := by
 obtain ⟨hlt,c0,c1,c2,f2⟩ := h.cells
 rcases h.2.1.cells with ⟨rfl,rfl⟩ | ⟨g,cap,cur,rfl,hb,hg,_,h1,h2,h3,h4,_⟩
 ·have hd : decide ((k : Int) < 0) = false := decide_eq_false (by omega)
  have he : lsr ltI d [] i k = i := by unfold lsr; rw [if_neg (by simp)]
  go_enter Tryz.func134,Tryz.ntmps134
  go_wp2_with fail
  go_quiet (fail)
  go_wp2
  go_ret
  exact ⟨ret_int (by rw [he]),_,rfl⟩
 ·by_cases hk : k < H.length
  ·have hi' := hi hk
   have ck : w.cell? ⟨g,k,none⟩ = some (.int .i64 H[k]) := h3 k _ (List.getElem?_eq_getElem hk)
   have ci : w.cell? ⟨g,i,none⟩ = some (.int .i64 H[i]) := h3 i _ (List.getElem?_eq_getElem hi')
   obtain ⟨x,hx⟩ : ∃ x,H[k] = x := ⟨_,rfl⟩
   obtain ⟨y,hy⟩ : ∃ y,H[i] = y := ⟨_,rfl⟩
   have he : lsr ltI d H i k = if ltI x y = true then k else i := by
    unfold lsr
    rw [at'_some (List.getElem?_eq_getElem hk),at'_some (List.getElem?_eq_getElem hi'),hx,hy]
    simp [hk]
   rw [hx] at ck
   rw [hy] at ci
   have HE := hid he
   have hk' : (k : Int) < (H.length : Int) := by omega
   have hi2 : (i : Int) < (H.length : Int) := by omega
   obtain ⟨r,hr⟩ : ∃ r,ltI x y = r := ⟨_,rfl⟩
   clear he h3 h4 hx hy h hk hi
   go_enter Tryz.func134,Tryz.ntmps134
   go_wp2_with fail
   go_quiet ((go_at_call 158; exact Calls.quiet_of_same (lessq_I x y _)))
   rw [hr]
   rw [hr] at HE
   cases r
   ·go_wp2
    go_ret
    exact ⟨ret_int (by rw [HE.out]; rfl),_,rfl⟩
   ·go_wp2
    go_ret
    exact ⟨ret_int (by rw [HE.out]; rfl),_,rfl⟩
  ·have he : lsr ltI d H i k = i := by unfold lsr; rw [if_neg (fun h => hk h.1)]
   have hd : decide (k < H.length) = false := decide_eq_false (by omega)
   clear hk hi
   go_enter Tryz.func134,Tryz.ntmps134
   go_wp2_with fail
   go_quiet (fail)
   go_wp2
   go_ret
   exact ⟨ret_int (by rw [he]),_,rfl⟩
theorem lesserZ_I (B wb : Nat) (p0 p1 sl : Value) (H : List Int) (d : Int) (i k : Nat) (zi zk : Int) (w : World) (h : HwI w B wb p0 p1 sl H) (hi : k < H.length -> i < H.length) (ei : zi = i) (ek : zk = k) :
  Calls Tryz.prog 134 #[.pointer (some ⟨wb,0,none⟩),.int .i64 zi,.int .i64 zk] w fun e w' => e = .returned (.int .i64 (lsr ltI d H i k : Nat)) /\ ∃ q,w' = w.drewN q := by
 subst ei
 subst ek
 exact lesser_I B wb p0 p1 sl H d i k w h hi
theorem HwI.swap {w w' : World} {B wb g n cap i j : Nat} {p0 p1 : Value} {H : List Int} {x y : Int} (h : HwI w B wb p0 p1 (.slice (some ⟨g,0,none⟩) n cap) H) (hw : w' = (w.setCell ⟨g,i,none⟩ (.int .i64 y)).setCell ⟨g,j,none⟩ (.int .i64 x)) :
  HwI w' B wb p0 p1 (.slice (some ⟨g,0,none⟩) n cap) (swL H i j x y) /\ Kpt [g] w w' := by
 have k1 : Kpt [g] w (w.setCell ⟨g,i,none⟩ (.int .i64 y)) := Kpt.set _ _ _ _ _ (by simp)
 have k2 : Kpt [g] (w.setCell ⟨g,i,none⟩ (.int .i64 y)) w' := by rw [hw]; exact Kpt.set _ _ _ _ _ (by simp)
 have k := k1.trans k2 (fun x hx => .inl hx)
 have hne : wb ∉ [g] := by
  have := h.2.2
  simp only [Value.ownBlock,ne_eq,Option.some.injEq] at this
  simp
  exact fun e => this e.symm
 refine ⟨⟨k.block h.1 hne,?_,h.2.2⟩,k⟩
 rw [hw]
 exact (h.2.1.set i y).set j x
theorem sink_I (B wb : Nat) (p0 p1 sl : Value) (H0 : List Int) (d : Int) (w : World) (h : HwI w B wb p0 p1 sl H0) (hs : SiF ltI (at' d H0) H0.length 0) (hn : H0.length <= 100000) :
  Calls Tryz.prog 88 #[.pointer (some ⟨wb,0,none⟩)] w fun e w' => e = .returned (.tuple #[]) /\ ∃ H',HwI w' B wb p0 p1 sl H' /\ H'.Perm H0 /\ Hp ltI d H' /\ Kpt sl.ownBlock.toList w w' := by
 have HW := hid h
 have HS := hid hs
 clear h hs
 go_enter Tryz.func88,Tryz.ntmps88
 go_wp2_with fail
 go_loopw [2] (fun v wr => ∃ (k : Nat) (H : List Int),v = .int .i64 (k : Int) /\ k <= H0.length /\ H.length = H0.length /\ Hid (HwI wr B wb p0 p1 sl H) /\ Hid (H.Perm H0) /\ Hid (SiF ltI (at' d H) H.length k) /\ Hid (Kpt sl.ownBlock.toList w wr)) (fun v _ => H0.length - (intOf v).toNat)
 case atStart => exact ⟨0,H0,rfl,by omega,rfl,HW,hid (List.Perm.refl _),HS,hid (Kpt.refl _ _)⟩
 case round =>
  clear HW HS
  obtain ⟨k,H,rfl,hk,hl,HW,HP,HS,HK⟩ := hrel
  obtain ⟨l1,hl1⟩ : ∃ l,lsr ltI d H k (2 * k + 1) = l := ⟨_,rfl⟩
  obtain ⟨l2,hl2⟩ : ∃ l,lsr ltI d H l1 (2 * k + 2) = l := ⟨_,rfl⟩
  obtain ⟨g1,g2,g3⟩ := lsr_two toI d H k l1 l2 hl1 hl2
  have G2 := hid g2
  have G3 := hid g3
  clear g2 g3
  go_wp2_with fail
  refine (lesserZ_I B wb p0 p1 sl H d k (2 * k + 1) _ _ wr HW.out (by omega) rfl (by omega)).mono ?_
  rintro e w1 ⟨rfl,q1,rfl⟩
  rw [hl1]
  go_wp2_with fail
  refine (lesserZ_I B wb p0 p1 sl H d l1 (2 * k + 2) _ _ _ (HW.out.drewN q1) g1 rfl (by omega)).mono ?_
  rintro e w2 ⟨rfl,q2,rfl⟩
  rw [hl2]
  clear hl1 hl2 g1
  obtain ⟨wq,hwq⟩ : ∃ x,x = (wr.drewN q1).drewN q2 := ⟨_,rfl⟩
  rw [<- hwq]
  have hq : Hid (HwI wq B wb p0 p1 sl H) := hid (by rw [hwq]; exact (HW.out.drewN q1).drewN q2)
  have hkq : Hid (Kpt sl.ownBlock.toList w wq) := hid (by rw [hwq]; exact HK.out.trans (.of_below (S := sl.ownBlock.toList) ((below_drewN _ wr q1).trans (below_drewN _ _ q2))) (fun x hx => .inl hx))
  clear hwq HW HK
  by_cases e : l2 = k
  ·subst e
   have G4 := hid (G2.out rfl)
   clear G2 G3
   go_wp2
   (try simp only [Exit.inBlock,Exit.then])
   refine bodyPost_ret (results_none rfl _ _ _) rfl ?_
   exact ⟨rfl,H,hq.out,HP.out,HS.out.done G4.out,hkq.out⟩
  ·obtain ⟨j0,jn,jk,jl,jm⟩ := G3.out e
   have JL := hid jl
   have JM := hid jm
   clear G2 G3 jl jm
   have hne : H ≠ [] := by rintro rfl; simp at jn
   rcases hq.out.2.1.cells with ⟨_,e'⟩ | ⟨g,cap,cur,rfl,hb,hg,_,h1,h2,h3,h4,_⟩
   ·exact absurd e' hne
   obtain ⟨hlt,c0,c1,c2,f2⟩ := hq.out.cells
   have kn : k < H.length := by omega
   have hxk := h3 k _ (List.getElem?_eq_getElem kn)
   have hxl := h3 l2 _ (List.getElem?_eq_getElem jn)
   have ek := List.getElem?_eq_getElem kn
   have el := List.getElem?_eq_getElem jn
   obtain ⟨x,hx⟩ : ∃ x,H[k] = x := ⟨_,rfl⟩
   obtain ⟨y,hy⟩ : ∃ y,H[l2] = y := ⟨_,rfl⟩
   rw [hx] at hxk ek
   rw [hy] at hxl el
   have EK := hid ek
   have EL := hid el
   have ck : wq.cell? ⟨g,k,none⟩ = some (.int .i64 x) := hxk
   have cl : wq.cell? ⟨g,l2,none⟩ = some (.int .i64 y) := hxl
   have fk := h4 k
   have fl := h4 l2
   have ki : (k : Int) < (H.length : Int) := by omega
   have li : (l2 : Int) < (H.length : Int) := by omega
   have eb : ((l2 : Int) == (k : Int)) = false := beq_eq_false_iff_ne.2 (by omega)
   clear h3 h4 hx hy hxk hxl ek el hg hb
   go_wp2_with fail
   go_region
   obtain ⟨r1,r2⟩ := HwI.swap hq.out (i := k) (j := l2) (x := x) (y := y) rfl
   obtain ⟨wz,hwz⟩ : ∃ z,z = ((wq.setCell ⟨g,k,none⟩ (.int .i64 y)).setCell ⟨g,l2,none⟩ (.int .i64 x)).drew := ⟨_,rfl⟩
   rw [<- hwz]
   have P1 : Hid (HwI wz B wb p0 p1 (.slice (some ⟨g,0,none⟩) H.length cap) (swL H k l2 x y)) := hid (by rw [hwz]; exact r1)
   have P2 : Hid (Kpt [g] wq wz) := hid (by rw [hwz]; exact r2.drew)
   clear hwz r1 r2 ck cl fk fl c0 c1 c2 f2 eb
   go_wp2_with fail
   go_roundw
   case rel =>
    obtain ⟨s1,s2,s3⟩ := at'_sw (d := d) EK.out EL.out
    refine ⟨l2,swL H k l2 x y,rfl,by omega,by rw [swL_len]; exact hl,P1,hid ((swL_perm EK.out EL.out).trans HP.out),hid ?_,hid (hkq.out.trans P2.out (fun z hz => .inl hz))⟩
    rw [swL_len]
    exact SiF.step toI HS.out j0 jn jk JL.out JM.out (by rw [s1,at'_some EL.out]) (by rw [s2,at'_some EK.out]) s3
   case measure => simp [intOf]; omega
theorem rise_I (B wb : Nat) (p0 p1 sl : Value) (H0 : List Int) (d : Int) (w : World) (h : HwI w B wb p0 p1 sl H0) (hs : RiF ltI (at' d H0) H0.length (H0.length - 1)) (h0 : H0 ≠ []) (hn : H0.length <= 100000) :
  Calls Tryz.prog 157 #[.pointer (some ⟨wb,0,none⟩)] w fun e w' => e = .returned (.tuple #[]) /\ ∃ H',HwI w' B wb p0 p1 sl H' /\ H'.Perm H0 /\ Hp ltI d H' /\ Kpt sl.ownBlock.toList w w' := by
 have hpos : 0 < H0.length := by
  rcases H0 with _ | ⟨a,l⟩
  ·exact absurd rfl h0
  ·simp
 rcases h.2.1.cells with ⟨_,e'⟩ | ⟨g,cap,cur,rfl,hb,hg,_,h1,h2,_⟩
 ·exact absurd e' h0
 obtain ⟨hlt,c0,c1,c2,f2⟩ := h.cells
 have HW := hid h
 have HS := hid hs
 clear h hs
 go_enter Tryz.func157,Tryz.ntmps157
 go_wp2_with fail
 clear c0 c1 c2 f2 hb hg hlt
 go_loopw [2] (fun v wr => ∃ (k : Nat) (H : List Int),v = .int .i64 (k : Int) /\ k < H0.length /\ H.length = H0.length /\ Hid (HwI wr B wb p0 p1 (.slice (some ⟨g,0,none⟩) H0.length cap) H) /\ Hid (H.Perm H0) /\ Hid (RiF ltI (at' d H) H.length k) /\ Hid (Kpt [g] w wr)) (fun v _ => (intOf v).toNat)
 case atStart => exact ⟨H0.length - 1,H0,by go_num,by omega,rfl,HW,hid (List.Perm.refl _),HS,hid (Kpt.refl _ _)⟩
 case round =>
  clear HW HS
  obtain ⟨k,H,rfl,hk,hl,HW,HP,HS,HK⟩ := hrel
  by_cases h0k : 0 < k
  ·have kn : k < H.length := by omega
   obtain ⟨u,hu⟩ : ∃ u,(k - 1) / 2 = u := ⟨_,rfl⟩
   have un : u < H.length := by omega
   have hq : ((k : Int) - 1).tdiv 2 = (u : Int) := by rw [Int.tdiv_eq_ediv_of_nonneg (by omega)]; omega
   obtain ⟨hlt,c0,c1,c2,f2⟩ := HW.out.cells
   rcases HW.out.2.1.cells with ⟨e',_⟩ | ⟨g',cap',cur',e',_,_,_,_,_,h3,h4,_⟩
   ·cases e'
   simp only [Value.slice.injEq,Option.some.injEq,Addr.mk.injEq,and_true] at e'
   obtain ⟨rfl,_,rfl⟩ := e'
   have ek := List.getElem?_eq_getElem kn
   have eu := List.getElem?_eq_getElem un
   have hxk := h3 k _ ek
   have hxu := h3 u _ eu
   obtain ⟨x,hx⟩ : ∃ x,H[k] = x := ⟨_,rfl⟩
   obtain ⟨y,hy⟩ : ∃ y,H[u] = y := ⟨_,rfl⟩
   rw [hx] at hxk ek
   rw [hy] at hxu eu
   have EK := hid ek
   have EU := hid eu
   have ck : wr.cell? ⟨g,k,none⟩ = some (.int .i64 x) := hxk
   have cu : wr.cell? ⟨g,u,none⟩ = some (.int .i64 y) := hxu
   have fk := h4 k
   have fu := h4 u
   have ki : (k : Int) < (H0.length : Int) := by omega
   have ui : (u : Int) < (H0.length : Int) := by omega
   have une : u ≠ k := by omega
   have kne : k ≠ u := by omega
   have HU := hid hu
   have hl2 := hid hl
   obtain ⟨r,hr⟩ : ∃ r,ltI x y = r := ⟨_,rfl⟩
   clear h3 h4 hx hy hxk hxu ek eu hu hl
   go_wp2_with fail
   go_quiet ((go_at_call 158; exact Calls.quiet_of_same (lessq_I x y _)))
   rw [hr]
   obtain ⟨wq,hwq⟩ : ∃ z,z = wr.drewN nq := ⟨_,rfl⟩
   rw [<- hwq]
   have hqq : Hid (HwI wq B wb p0 p1 (.slice (some ⟨g,0,none⟩) H0.length cap) H) := hid (by rw [hwq]; exact HW.out)
   have hkq : Hid (Kpt [g] w wq) := hid (by rw [hwq]; exact HK.out.trans (.of_below (S := [g]) (below_drewN _ _ _)) (fun x hx => .inl hx))
   have ck' : wq.cell? ⟨g,k,none⟩ = some (.int .i64 x) := by rw [hwq]; exact ck
   have cu' : wq.cell? ⟨g,u,none⟩ = some (.int .i64 y) := by rw [hwq]; exact cu
   have fk' : wq.frozen? ⟨g,k,none⟩ = false := by rw [hwq]; exact fk
   have fu' : wq.frozen? ⟨g,u,none⟩ = false := by rw [hwq]; exact fu
   have c2' : wq.cell? ⟨wb,2,none⟩ = some (.slice (some ⟨g,0,none⟩) H0.length cap) := by rw [hwq]; exact c2
   clear hwq HW HK ck cu fk fu c0 c1 c2 f2 hlt
   cases r
   ·have HF := hid hr
    clear hr
    go_wp2
    (try simp only [Exit.inBlock,Exit.then])
    refine bodyPost_ret (results_none rfl _ _ _) rfl ?_
    exact ⟨rfl,H,hqq.out,HP.out,HS.out.done (fun _ => by rw [HU.out,at'_some EK.out,at'_some EU.out]; exact HF.out),hkq.out⟩
   ·have HF := hid hr
    clear hr
    go_wp2_with fail
    go_region
    obtain ⟨r1,r2⟩ := HwI.swap hqq.out (i := k) (j := u) (x := x) (y := y) rfl
    obtain ⟨wz,hwz⟩ : ∃ z,z = ((wq.setCell ⟨g,k,none⟩ (.int .i64 y)).setCell ⟨g,u,none⟩ (.int .i64 x)).drew := ⟨_,rfl⟩
    rw [<- hwz]
    have P1 : Hid (HwI wz B wb p0 p1 (.slice (some ⟨g,0,none⟩) H0.length cap) (swL H k u x y)) := hid (by rw [hwz]; exact r1)
    have P2 : Hid (Kpt [g] wq wz) := hid (by rw [hwz]; exact r2.drew)
    clear hwz r1 r2 ck' cu' fk' fu' c2'
    go_wp2_with fail
    go_roundw
    case rel =>
     obtain ⟨s1,s2,s3⟩ := at'_sw (d := d) EK.out EU.out
     refine ⟨u,swL H k u x y,rfl,by omega,by rw [swL_len]; exact hl2.out,P1,hid ((swL_perm EK.out EU.out).trans HP.out),hid ?_,hid (hkq.out.trans P2.out (fun z hz => .inl hz))⟩
     rw [swL_len]
     have hu := HU.out
     have := RiF.step toI HS.out h0k kn (by rw [hu,at'_some EK.out,at'_some EU.out]; exact HF.out) (f' := at' d (swL H k u x y)) (by rw [s1,hu,at'_some EU.out]) (by rw [hu,s2,at'_some EK.out]) (by rw [hu]; exact s3)
     rw [hu] at this
     exact this
    case measure => have hu := HU.out; simp [intOf]; omega
  ·have e0 : k = 0 := by omega
   subst e0
   clear h0k
   go_wp2_with fail
   go_end0
   exact ⟨rfl,H,HW.out,HP.out,HS.out.done (fun h => absurd h (by omega)),HK.out⟩
end Go.Proofs.YtfpeakkbbfnhcaaGreat.S
namespace Go.Proofs.YtfpeakkbbfnhcaaGreat.S
open Go.RowKit Go.Maps
def Kp (ok : Nat -> Prop) (w w' : World) : Prop := Below 0 w w' /\ ∀ g,g < w.heap.size -> ¬ ok g -> w'.heap[g]? = w.heap[g]?
theorem Kp.of_kpt {ok : Nat -> Prop} {S : List Nat} {w w' : World} (h : Kpt S w w') (hS : ∀ x ∈ S,x < w.heap.size -> ok x) : Kp ok w w' := ⟨h.1,fun g hg hn => h.2 g hg (fun hx => hn (hS g hx hg))⟩
theorem Kp.trans {ok : Nat -> Prop} {a b c : World} (h : Kp ok a b) (k : Kp ok b c) : Kp ok a c := ⟨h.1.trans k.1,fun g hg hn => (k.2 g (Nat.lt_of_lt_of_le hg h.1.size) hn).trans (h.2 g hg hn)⟩
theorem Kp.refl (ok : Nat -> Prop) (w : World) : Kp ok w w := ⟨Below.refl _ _,fun _ _ _ => rfl⟩
theorem Kp.size {ok : Nat -> Prop} {w w' : World} (h : Kp ok w w') : w.heap.size <= w'.heap.size := h.1.size
theorem Kp.mono {ok ok' : Nat -> Prop} {w w' : World} (h : Kp ok w w') (ho : ∀ b,b < w.heap.size -> ok b -> ok' b) : Kp ok' w w' := ⟨h.1,fun g hg hn => h.2 g hg (fun hk => hn (ho g hg hk))⟩
theorem Kp.below {ok : Nat -> Prop} {w w' : World} {B : Nat} (h : Kp ok w w') (hb : ∀ b,ok b -> B <= b) (hB : B <= w.heap.size) : Below B w w' :=
 ⟨h.1.os,h.1.tape,h.1.output,h.1.size,fun k hk => h.2 k (by omega) (fun ho => by have := hb k ho; omega)⟩
theorem Kp.block {ok : Nat -> Prop} {w w' : World} (h : Kp ok w w') {b : Nat} {o : Obj} (hb : w.heap[b]? = some o) (hn : ¬ ok b) : w'.heap[b]? = some o := (h.2 b (Array.getElem?_eq_some_iff.1 hb).1 hn).trans hb
theorem perm_pop {α : Type} (d x z : α) (H : List α) (h0 : H[0]? = some x) (hz : H[H.length - 1]? = some z) : (x :: (((H.set 0 z).set (H.length - 1) d).take (H.length - 1))).Perm H := by
 rcases H with _ | ⟨a,t⟩
 ·simp at h0
 ·simp only [List.getElem?_cons_zero,Option.some.injEq] at h0
  subst h0
  rcases List.eq_nil_or_concat t with rfl | ⟨m,y,rfl⟩
  ·simp
  ·rw [List.concat_eq_append] at hz ⊢
   have hy : z = y := by
    simp at hz
    exact hz.symm
   subst hy
   simp only [List.set_cons_zero,List.length_cons,List.length_append,List.length_nil,Nat.add_sub_cancel,Nat.zero_add]
   rw [List.set_cons_succ,List.set_append_right _ _ (Nat.le_refl _)]
   simp only [Nat.sub_self,List.set_cons_zero,List.take_succ_cons,List.take_left']
   exact List.Perm.cons _ ((List.perm_append_comm (l₁ := m) (l₂ := [z])).symm)
theorem delS_perm {α : Type} [DecidableEq α] {x : α} {H N : List α} (h : (x :: H).Perm N) (hn : N.Nodup) : H.Perm (delS N x) := by
 have h1 : (x :: H).Nodup := h.nodup_iff.2 hn
 have h2 : x ∉ H := (List.nodup_cons.1 h1).1
 have h3 : delS (x :: H) x = H := by
  unfold delS
  rw [List.filter_cons_of_neg (by simp),List.filter_eq_self]
  intro y hy
  exact decide_eq_true (fun e => h2 (e ▸ hy))
 have h4 : (delS (x :: H) x).Perm (delS N x) := h.filter _
 rw [h3] at h4
 exact h4
def WqI (ok : Nat -> Prop) (w : World) (wb : Nat) (E N : List Int) : Prop :=
 ∃ (se me sn mn : Nat) (sl : Value) (H : List Int),[wb,se,me,sn,mn].Nodup /\ (∀ g,sl.ownBlock = some g -> g ∉ [wb,se,me,sn,mn]) /\
  HwI w 0 wb (.pointer (some ⟨se,0,none⟩)) (.pointer (some ⟨sn,0,none⟩)) sl H /\ StI w 0 se me E /\ StI w 0 sn mn N /\ Hp ltI (0 : Int) H /\ H.Perm N /\ (∀ b ∈ [wb,se,me,sn,mn],ok b) /\ (∀ g,sl.ownBlock = some g -> ok g)
theorem WqI.mono {ok ok' : Nat -> Prop} {w : World} {wb : Nat} {E N : List Int} (h : WqI ok w wb E N) (ho : ∀ b,ok b -> b < w.heap.size -> ok' b) : WqI ok' w wb E N := by
 obtain ⟨se,me,sn,mn,sl,H,h1,h2,h3,h4,h5,h6,h7,h8,h9⟩ := h
 have l1 := h3.cells.1
 have l2 := h4.lt
 have l3 := h5.lt
 refine ⟨se,me,sn,mn,sl,H,h1,h2,h3,h4,h5,h6,h7,fun b hb => ho b (h8 b hb) ?_,fun g hg => ho g (h9 g hg) (h3.2.1.lt g hg).2⟩
 simp only [List.mem_cons,List.not_mem_nil,or_false] at hb
 rcases hb with rfl | rfl | rfl | rfl | rfl
 ·exact l1
 ·exact l2.1
 ·exact l2.2.1
 ·exact l3.1
 ·exact l3.2.1
theorem WqI.kpt {ok : Nat -> Prop} {w w' : World} {wb : Nat} {E N : List Int} {S : List Nat} (h : WqI ok w wb E N) (hk : Kpt S w w') (hS : ∀ x ∈ S,¬ ok x) : WqI ok w' wb E N := by
 obtain ⟨se,me,sn,mn,sl,H,h1,h2,h3,h4,h5,h6,h7,h8,h9⟩ := h
 have hf : ∀ b ∈ [wb,se,me,sn,mn],b ∉ S := fun b hb hs => hS b hs (h8 b hb)
 refine ⟨se,me,sn,mn,sl,H,h1,h2,⟨hk.block h3.1 (hf wb (by simp)),h3.2.1.kpt hk (fun g hg hs => hS g hs (h9 g hg)),h3.2.2⟩,h4.kpt hk (hf se (by simp)) (hf me (by simp)),h5.kpt hk (hf sn (by simp)) (hf mn (by simp)),h6,h7,h8,h9⟩
theorem WqI.bel {ok : Nat -> Prop} {w w' : World} {wb : Nat} {E N : List Int} (h : WqI ok w wb E N) (hb : Below w.heap.size w w') : WqI ok w' wb E N := h.kpt (.of_below (S := []) hb) (by simp)
theorem WqI.oks {ok : Nat -> Prop} {w : World} {wb : Nat} {E N : List Int} (h : WqI ok w wb E N) : ∀ x ∈ N,okI x := by
 obtain ⟨se,me,sn,mn,sl,H,h1,h2,h3,h4,h5,_⟩ := h
 exact h5.2.2.2.oks
theorem again_end_I {ok : Nat -> Prop} {w2 w3 w4 : World} {wb se me sn mn : Nat} {sl v' : Value} {E N H : List Int} {x : Int} {o : Obj} (h1 : [wb,se,me,sn,mn].Nodup) (h2 : ∀ g,sl.ownBlock = some g -> g ∉ [wb,se,me,sn,mn])
  (h3 : HwI w2 0 wb (.pointer (some ⟨se,0,none⟩)) (.pointer (some ⟨sn,0,none⟩)) sl H) (h4 : StI w2 0 se me E) (h5 : StI w2 0 sn mn N) (h7 : (H ++ [x]).Perm N) (h8 : ∀ b ∈ [wb,se,me,sn,mn],ok b) (h9 : ∀ g,sl.ownBlock = some g -> ok g)
  (hnew : ∀ b,w2.heap.size <= b -> ok b) (ho : OwnC cI 3 w3 0 v' (H ++ [x])) (hg : (w2.alloc o).grownBy w3 sl.ownBlock) (hl : v'.ownBlock = sl.ownBlock ∨ v'.ownBlock = some (w2.alloc o).heap.size) (hw4 : w4 = w3.setCell ⟨wb,2,none⟩ v') :
  w3.cell? ⟨wb,2,none⟩ = some sl /\ w3.frozen? ⟨wb,2,none⟩ = false /\ wb < w3.heap.size /\ HwI w4 0 wb (.pointer (some ⟨se,0,none⟩)) (.pointer (some ⟨sn,0,none⟩)) v' (H ++ [x]) /\
  ∀ w5 H',HwI w5 0 wb (.pointer (some ⟨se,0,none⟩)) (.pointer (some ⟨sn,0,none⟩)) v' H' -> H'.Perm (H ++ [x]) -> Hp ltI (0 : Int) H' -> Kpt v'.ownBlock.toList w4 w5 -> WqI ok w5 wb E N /\ Kp ok w2 w5 := by
 have hlt : ∀ b ∈ [wb,se,me,sn,mn],b < w2.heap.size := by
  intro b hb
  have l1 := h3.cells.1
  have l2 := h4.lt
  have l3 := h5.lt
  simp only [List.mem_cons,List.not_mem_nil,or_false] at hb
  rcases hb with rfl | rfl | rfl | rfl | rfl
  ·exact l1
  ·exact l2.1
  ·exact l2.2.1
  ·exact l3.1
  ·exact l3.2.1
 have hv : ∀ g,v'.ownBlock = some g -> g ∉ [wb,se,me,sn,mn] := by
  intro g hgv
  rcases hl with e | e
  ·exact h2 g (e ▸ hgv)
  ·rw [e] at hgv
   cases hgv
   intro hb
   have := hlt _ hb
   simp at this
   omega
 have hvok : ∀ g,v'.ownBlock = some g -> ok g := by
  intro g hgv
  rcases hl with e | e
  ·exact h9 g (e ▸ hgv)
  ·rw [e] at hgv
   cases hgv
   exact hnew _ (by simp)
 have k3 : Kpt sl.ownBlock.toList w2 w3 := (Kpt.alloc _ w2 o).trans (.of_grown (S := sl.ownBlock.toList) hg (fun g e => .inl (by rw [e]; simp))) (fun x hx => .inl hx)
 have hwb3 : w3.heap[wb]? = some (.cells #[.pointer (some ⟨se,0,none⟩),.pointer (some ⟨sn,0,none⟩),sl] 155 (0,0)) := k3.block h3.1 (by
  intro hx
  have := h2 wb (by simpa using hx)
  simp at this)
 have k4 : Kpt [wb] w3 w4 := by rw [hw4]; exact Kpt.set _ _ _ _ _ (by simp)
 have hwb4 : w4.heap[wb]? = some (.cells #[.pointer (some ⟨se,0,none⟩),.pointer (some ⟨sn,0,none⟩),v'] 155 (0,0)) := by
  rw [hw4,heap_setCell_same w3 wb 2 _ _ _ hwb3]; rfl
 have hvw : v'.ownBlock ≠ some wb := fun e => by have := hv wb e; simp at this
 have hH4 : HwI w4 0 wb (.pointer (some ⟨se,0,none⟩)) (.pointer (some ⟨sn,0,none⟩)) v' (H ++ [x]) := ⟨hwb4,ho.kpt k4 (fun g e hx => hvw (by rw [e,List.mem_singleton.1 hx])),hvw⟩
 refine ⟨by simp [World.cell?,hwb3],by simp [World.frozen?,hwb3],(Array.getElem?_eq_some_iff.1 hwb3).1,hH4,fun w5 H' g1 g2 g3 g4 => ?_⟩
 have nin : ∀ b ∈ [wb,se,me,sn,mn],b ∉ sl.ownBlock.toList /\ b ∉ v'.ownBlock.toList := fun b hb => ⟨fun hx => h2 b (by simpa using hx) hb,fun hx => hv b (by simpa using hx) hb⟩
 have nw : ∀ b ∈ [se,me,sn,mn],b ∉ [wb] := by
  intro b hb he
  rw [List.mem_singleton] at he
  subst he
  exact (List.nodup_cons.1 h1).1 hb
 have keep : ∀ {s m : Nat} {L : List Int},StI w2 0 s m L -> s ∈ [se,me,sn,mn] -> m ∈ [se,me,sn,mn] -> StI w5 0 s m L := fun hs m1 m2 =>
  ((hs.kpt k3 (nin _ (List.mem_cons_of_mem _ m1)).1 (nin _ (List.mem_cons_of_mem _ m2)).1).kpt k4 (nw _ m1) (nw _ m2)).kpt g4 (nin _ (List.mem_cons_of_mem _ m1)).2 (nin _ (List.mem_cons_of_mem _ m2)).2
 refine ⟨⟨se,me,sn,mn,v',H',h1,hv,g1,keep h4 (by simp) (by simp),keep h5 (by simp) (by simp),g3,g2.trans h7,h8,hvok⟩,?_⟩
 refine ((Kp.of_kpt k3 (fun y hy _ => h9 y (by simpa using hy))).trans (Kp.of_kpt k4 (fun y hy _ => by rw [List.mem_singleton.1 hy]; exact h8 wb (by simp)))).trans (Kp.of_kpt g4 (fun y hy _ => hvok y (by simpa using hy)))
theorem again_I (ok : Nat -> Prop) (wb : Nat) (E N : List Int) (x : Int) (w : World) (h : WqI ok w wb E N) (hx : okI x) (hE : E.length <= 10000) (hN : N.length <= 10000) (hnew : ∀ b,w.heap.size <= b -> ok b) :
  Calls Tryz.prog 133 #[.pointer (some ⟨wb,0,none⟩),.int .i64 x] w fun e w' => e = .returned (.tuple #[]) /\ WqI ok w' wb (addS E x) (addS N x) /\ Kp ok w w' := by
 obtain ⟨se,me,sn,mn,sl,H,h1,h2,h3,h4,h5,h6,h7,h8,h9⟩ := h
 have H1 := hid h1
 have H2 := hid h2
 have H6 := hid h6
 have H7 := hid h7
 have H8 := hid h8
 have H9 := hid h9
 have HN := hid hnew
 simp only [List.nodup_cons,List.mem_cons,List.not_mem_nil,or_false,not_or,List.nodup_nil,and_true,not_false_eq_true] at h1
 obtain ⟨⟨n1,n2,n3,n4⟩,⟨n5,n6,n7⟩,⟨n8,n9⟩,n10⟩ := h1
 obtain ⟨hlt,c0,c1,c2,f2⟩ := h3.cells
 clear h2 h6 h7 h8 h9 hnew
 go_enter Tryz.func133,Tryz.ntmps133
 go_wp2_with fail
 refine (add_I 0 se me E x w h4 hx (by omega)).mono ?_
 rintro e w1 ⟨rfl,hs1,k1⟩
 have h3' : HwI w1 0 wb (.pointer (some ⟨se,0,none⟩)) (.pointer (some ⟨sn,0,none⟩)) sl H := ⟨k1.block h3.1 (by simp; omega),h3.2.1.kpt k1 (fun g e hg => H2.out g e (by rw [List.mem_singleton.1 hg]; simp)),h3.2.2⟩
 have h5' : StI w1 0 sn mn N := h5.kpt k1 (by simp; omega) (by simp; omega)
 have K1 : Hid (Kp ok w w1) := hid (Kp.of_kpt k1 (fun y hy _ => H8.out y (by rw [List.mem_singleton.1 hy]; simp)))
 clear h3 h4 h5 c0 c1 c2 f2 hlt k1
 obtain ⟨hlt,c0,c1,c2,f2⟩ := h3'.cells
 go_wp2_with fail
 refine (add_I 0 sn mn N x w1 h5' hx (by omega)).mono ?_
 rintro e w2 ⟨rfl,hs2,k2⟩
 have h3 : HwI w2 0 wb (.pointer (some ⟨se,0,none⟩)) (.pointer (some ⟨sn,0,none⟩)) sl H := ⟨k2.block h3'.1 (by simp; omega),h3'.2.1.kpt k2 (fun g e hg => H2.out g e (by rw [List.mem_singleton.1 hg]; simp)),h3'.2.2⟩
 have h4 : StI w2 0 se me (addS E x) := hs1.kpt k2 (by simp; omega) (by simp; omega)
 have K2 : Hid (Kp ok w w2) := hid (K1.out.trans (Kp.of_kpt k2 (fun y hy _ => H8.out y (by rw [List.mem_singleton.1 hy]; simp))))
 clear h3' h5' c0 c1 c2 f2 hlt k2 hs1 K1
 by_cases hin : x ∈ N
 ·have hr := hasB_in hin
  rw [hr]
  rw [addS_in hin] at hs2
  go_wp2
  go_end0
  exact ⟨rfl,by rw [addS_in hin]; exact ⟨se,me,sn,mn,sl,H,H1.out,H2.out,h3,h4,hs2,H6.out,H7.out,H8.out,H9.out⟩,K2.out⟩
 ·have hr := hasB_out hin
  rw [hr]
  rw [addS_out hin] at hs2
  obtain ⟨hlt,c0,c1,c2,f2⟩ := h3.cells
  have ho := h3.2.1
  have hHl : H.length <= 10000 := by rw [H7.out.length_eq]; exact hN
  have H3 := hid h3
  have H4 := hid h4
  have H5 := hid hs2
  have HO := hid ((ho.alloc (.cells #[.int .i64 x] 3)))
  have HX := hid (rd_one (c := cI) (x := x) (heap_alloc_new w2 (.cells #[.int .i64 x] 3)) rfl)
  obtain ⟨a,n,cp,hsl⟩ := ho.slice
  subst hsl
  clear h3 h4 hs2 ho
  go_wp2_with (at_builtin; refine wp_appC infI (fun _ => rfl) rfl _ _ rfl 0 _ H rfl HO.out (fun _ => True) _ [x] rfl HX.out (by simp; omega) (by omega) ?_)
  intro v' w3 ho3 hg3 hl3
  obtain ⟨a',n',cp',hv'⟩ := ho3.slice
  subst hv'
  obtain ⟨w4,hw4⟩ : ∃ z,z = w3.setCell ⟨wb,2,none⟩ (.slice a' n' cp') := ⟨_,rfl⟩
  obtain ⟨d2,g2,hlt3,hH4,hfin⟩ := again_end_I (ok := ok) (x := x) H1.out H2.out H3.out H4.out H5.out (H7.out.append (List.Perm.refl _)) H8.out H9.out (fun b hb => HN.out b (Nat.le_trans K2.out.size hb)) ho3 hg3 (by rw [World.size_alloc]; exact hl3) hw4
  have HF := hid hfin
  have HH := hid hH4
  clear hfin hH4 ho3 hg3 hl3 c0 c1 c2 f2 H3 H4 H5 HO HX H1 H2 H8 H9
  go_wp2_with fail
  rw [<- hw4]
  clear hw4 d2 g2 hlt3
  refine (rise_I 0 wb _ _ _ (H ++ [x]) (0 : Int) w4 HH.out (by have := H6.out.snoc x; simpa using this) (by simp) (by simp; omega)).mono ?_
  rintro e w5 ⟨rfl,H',g1,g2,g3,g4⟩
  obtain ⟨q1,q2⟩ := HF.out w5 H' g1 g2 g3 g4
  have Q1 := hid q1
  have Q2 := hid (K2.out.trans q2)
  clear q1 q2 g1 g2 g3 g4 HF HH
  go_wp2
  go_end0
  exact ⟨rfl,by rw [addS_out hin]; exact Q1.out,Q2.out⟩
theorem put_I (ok : Nat -> Prop) (wb : Nat) (E N : List Int) (x : Int) (w : World) (h : WqI ok w wb E N) (hx : okI x) (hE : E.length <= 10000) (hN : N.length <= 10000) (hnew : ∀ b,w.heap.size <= b -> ok b) :
  Calls Tryz.prog 85 #[.pointer (some ⟨wb,0,none⟩),.int .i64 x] w fun e w' => e = .returned (.bool (!hasB E x)) /\ WqI ok w' wb (addS E x) (putN E N x) /\ Kp ok w w' := by
 have HW := hid h
 obtain ⟨se,me,sn,mn,sl,H,h1,h2,h3,h4,h5,h6,h7,h8,h9⟩ := h
 obtain ⟨hlt,c0,c1,c2,f2⟩ := h3.cells
 have HN := hid hnew
 clear h1 h2 h3 h5 h6 h7 h8 h9 hnew
 go_enter Tryz.func85,Tryz.ntmps85
 go_wp2_with fail
 refine (has_I 0 se me E x w h4 hx).mono ?_
 rintro e w1 ⟨rfl,hb⟩
 have HB := hid hb
 clear hb h4 c0 c1 c2 f2 hlt
 by_cases hin : x ∈ E
 ·have hr := hasB_in hin
  rw [hr]
  go_wp2
  go_ret
  exact ⟨by rw [hr]; rfl,by rw [addS_in hin,putN_in hin]; exact HW.out.bel HB.out,Kp.of_kpt (.of_below (S := []) HB.out) (by simp)⟩
 ·have hr := hasB_out hin
  rw [hr]
  go_wp2_with fail
  refine (again_I ok wb E N x w1 (HW.out.bel HB.out) hx hE hN (fun b hb => HN.out b (Nat.le_trans HB.out.size hb))).mono ?_
  rintro e w2 ⟨rfl,q1,q2⟩
  have Q1 := hid q1
  have Q2 := hid q2
  clear q1 q2
  go_wp2
  go_ret
  exact ⟨by rw [hr]; rfl,by rw [putN_out hin]; exact Q1.out,(Kp.of_kpt (.of_below (S := []) HB.out) (by simp)).trans Q2.out⟩
end Go.Proofs.YtfpeakkbbfnhcaaGreat.S
namespace Go.Proofs.YtfpeakkbbfnhcaaGreat.S
open Go.RowKit Go.Maps
theorem take_end_I {ok : Nat -> Prop} {w w1 w2 w3 : World} {wb se me sn mn g cap last : Nat} {E N H : List Int} {x z : Int} (h1 : [wb,se,me,sn,mn].Nodup) (h2 : ∀ k,(Value.slice (some ⟨g,0,none⟩) H.length cap).ownBlock = some k -> k ∉ [wb,se,me,sn,mn])
  (h3 : HwI w 0 wb (.pointer (some ⟨se,0,none⟩)) (.pointer (some ⟨sn,0,none⟩)) (.slice (some ⟨g,0,none⟩) H.length cap) H) (h4 : StI w 0 se me E) (h5 : StI w 0 sn mn N) (h6 : Hp ltI (0 : Int) H) (h7 : H.Perm N) (h8 : ∀ b ∈ [wb,se,me,sn,mn],ok b) (h9 : ok g)
  (hx : H[0]? = some x) (hz : H[last]? = some z) (hl : last + 1 = H.length) (e1 : w1 = (w.setCell ⟨g,0,none⟩ (.int .i64 z)).drew) (e2 : w2 = w1.setCell ⟨g,last,none⟩ (.int .i64 0)) (e3 : w3 = w2.setCell ⟨wb,2,none⟩ (.slice (some ⟨g,0,none⟩) last cap)) :
  (w1.cell? ⟨wb,2,none⟩ = some (.slice (some ⟨g,0,none⟩) H.length cap) /\ (∃ u,w1.cell? ⟨g,last,none⟩ = some u) /\ w1.frozen? ⟨g,last,none⟩ = false) /\ (w2.cell? ⟨wb,2,none⟩ = some (.slice (some ⟨g,0,none⟩) H.length cap) /\ w2.frozen? ⟨wb,2,none⟩ = false) /\
  ∃ G : List Int,(x :: G).Perm N /\ G.length = last /\ SiF ltI (at' (0 : Int) G) G.length 0 /\ HwI w3 0 wb (.pointer (some ⟨se,0,none⟩)) (.pointer (some ⟨sn,0,none⟩)) (.slice (some ⟨g,0,none⟩) last cap) G /\
  ∀ w4 H',HwI w4 0 wb (.pointer (some ⟨se,0,none⟩)) (.pointer (some ⟨sn,0,none⟩)) (.slice (some ⟨g,0,none⟩) last cap) H' -> H'.Perm G -> Hp ltI (0 : Int) H' -> Kpt [g] w3 w4 ->
   w4.cell? ⟨wb,1,none⟩ = some (.pointer (some ⟨sn,0,none⟩)) /\ StI w4 0 sn mn N /\ ∀ w5,StI w5 0 sn mn (delS N x) -> Kpt [mn] w4 w5 -> WqI ok w5 wb E (delS N x) /\ Kp ok w w5 := by
 have hgn : g ∉ [wb,se,me,sn,mn] := h2 g rfl
 have hgw : g ≠ wb := fun e => hgn (by rw [e]; simp)
 have k1 : Kpt [g] w w1 := by rw [e1]; exact (Kpt.set [g] w g 0 _ (by simp)).drew
 have k2 : Kpt [g] w1 w2 := by rw [e2]; exact Kpt.set _ _ _ _ _ (by simp)
 have k12 : Kpt [g] w w2 := k1.trans k2 (fun y hy => .inl hy)
 have k3 : Kpt [wb] w2 w3 := by rw [e3]; exact Kpt.set _ _ _ _ _ (by simp)
 have nin : ∀ b ∈ [wb,se,me,sn,mn],b ∉ [g] := fun b hb he => hgn (by rw [List.mem_singleton] at he; rw [<- he]; exact hb)
 have nw : ∀ b ∈ [se,me,sn,mn],b ∉ [wb] := by
  intro b hb he
  rw [List.mem_singleton] at he
  subst he
  exact (List.nodup_cons.1 h1).1 hb
 have hne : H ≠ [] := by rintro rfl; simp at hx
 have hH2 : OwnC cI 3 w2 0 (.slice (some ⟨g,0,none⟩) H.length cap) ((H.set 0 z).set last (0 : Int)) := by
  rw [e2,e1]
  exact (h3.2.1.set 0 z).set last (0 : Int)
 have hH3 := hH2.front (k := last) (by simp; omega) (by intro h; have := congrArg List.length h; simp at this; exact hne this)
 have hw2 : w2.heap[wb]? = some (.cells #[.pointer (some ⟨se,0,none⟩),.pointer (some ⟨sn,0,none⟩),.slice (some ⟨g,0,none⟩) H.length cap] 155 (0,0)) := k12.block h3.1 (nin wb (by simp))
 have hw3 : w3.heap[wb]? = some (.cells #[.pointer (some ⟨se,0,none⟩),.pointer (some ⟨sn,0,none⟩),.slice (some ⟨g,0,none⟩) last cap] 155 (0,0)) := by
  rw [e3,heap_setCell_same w2 wb 2 _ _ _ hw2]; rfl
 have hlast : last = H.length - 1 := by omega
 have hG : (((H.set 0 z).set last (0 : Int)).take last).length = last := by simp; omega
 have hw1 : w1.heap[wb]? = some (.cells #[.pointer (some ⟨se,0,none⟩),.pointer (some ⟨sn,0,none⟩),.slice (some ⟨g,0,none⟩) H.length cap] 155 (0,0)) := k1.block h3.1 (nin wb (by simp))
 have hH1 : OwnC cI 3 w1 0 (.slice (some ⟨g,0,none⟩) H.length cap) (H.set 0 z) := by
  rw [e1]
  exact h3.2.1.set 0 z
 have hc1 : (∃ u,w1.cell? ⟨g,last,none⟩ = some u) /\ w1.frozen? ⟨g,last,none⟩ = false := by
  rcases hH1.cells with ⟨e,_⟩ | ⟨g',cap',cur',e,_,_,_,q1,_,_,q2,q3⟩
  ·cases e
  ·simp only [Value.slice.injEq,Option.some.injEq,Addr.mk.injEq,and_true] at e
   obtain ⟨rfl,_,rfl⟩ := e
   exact ⟨q3 last (by simp at q1; omega),q2 last⟩
 refine ⟨⟨by simp [World.cell?,hw1],hc1.1,hc1.2⟩,⟨by simp [World.cell?,hw2],by simp [World.frozen?,hw2]⟩,((H.set 0 z).set last (0 : Int)).take last,?_,hG,?_,⟨hw3,hH3.kpt k3 (fun k e hk => ?_),fun e => ?_⟩,fun w4 H' g1 g2 g3 g4 => ?_⟩
 ·subst hlast
  exact (perm_pop (0 : Int) x z H hx hz).trans h7
 ·refine Hp.pop h6 (by rw [hG]; exact hl) (fun k k0 kn => ?_)
  rw [hG] at kn
  rw [List.getElem?_take_of_lt kn,List.getElem?_set_ne (by omega),List.getElem?_set_ne (by omega)]
 ·simp only [Value.ownBlock,Option.some.injEq] at e
  exact hgw (by rw [e,List.mem_singleton.1 hk])
 ·simp only [Value.ownBlock,Option.some.injEq] at e
  exact hgw e
 ·have keep : ∀ {s m : Nat} {L : List Int},StI w 0 s m L -> s ∈ [se,me,sn,mn] -> m ∈ [se,me,sn,mn] -> StI w4 0 s m L := fun hs m1 m2 =>
   ((hs.kpt k12 (nin _ (List.mem_cons_of_mem _ m1)) (nin _ (List.mem_cons_of_mem _ m2))).kpt k3 (nw _ m1) (nw _ m2)).kpt g4 (nin _ (List.mem_cons_of_mem _ m1)) (nin _ (List.mem_cons_of_mem _ m2))
  refine ⟨g1.cells.2.2.1,keep h5 (by simp) (by simp),fun w5 q1 k5 => ?_⟩
  have hmn : ∀ b ∈ [wb,se,me,sn],b ∉ [mn] := by
   intro b hb he
   rw [List.mem_singleton] at he
   subst he
   have := h1
   simp only [List.nodup_cons,List.mem_cons,List.not_mem_nil,or_false,not_or,List.nodup_nil,and_true,not_false_eq_true] at this
   simp only [List.mem_cons,List.not_mem_nil,or_false] at hb
   obtain ⟨⟨n1,n2,n3,n4⟩,⟨n5,n6,n7⟩,⟨n8,n9⟩,n10⟩ := this
   rcases hb with e | e | e | e
   ·exact n4 e.symm
   ·exact n7 e.symm
   ·exact n9 e.symm
   ·exact n10 e.symm
  have hgm : g ∉ [mn] := fun he => hgn (by rw [List.mem_singleton] at he; rw [he]; simp)
  have hp1 : (x :: H').Perm N := (List.Perm.cons x g2).trans (by subst hlast; exact (perm_pop (0 : Int) x z H hx hz).trans h7)
  refine ⟨⟨se,me,sn,mn,_,H',h1,fun k e => ?_,⟨k5.block g1.1 (hmn wb (by simp)),g1.2.1.kpt k5 (fun k e => ?_),g1.2.2⟩,(keep h4 (by simp) (by simp)).kpt k5 (hmn se (by simp)) (hmn me (by simp)),q1,g3,delS_perm hp1 h5.2.2.2.nodup,h8,fun k e => ?_⟩,?_⟩
  ·simp only [Value.ownBlock,Option.some.injEq] at e
   rw [<- e]; exact hgn
  ·simp only [Value.ownBlock,Option.some.injEq] at e
   rw [<- e]; exact hgm
  ·simp only [Value.ownBlock,Option.some.injEq] at e
   rw [<- e]; exact h9
  ·exact (((Kp.of_kpt k12 (fun y hy _ => by rw [List.mem_singleton.1 hy]; exact h9)).trans (Kp.of_kpt k3 (fun y hy _ => by rw [List.mem_singleton.1 hy]; exact h8 wb (by simp)))).trans (Kp.of_kpt g4 (fun y hy _ => by rw [List.mem_singleton.1 hy]; exact h9))).trans (Kp.of_kpt k5 (fun y hy _ => by rw [List.mem_singleton.1 hy]; exact h8 mn (by simp)))
theorem take0_I (ok : Nat -> Prop) (wb : Nat) (E : List Int) (w : World) (h : WqI ok w wb E []) :
  Calls Tryz.prog 41 #[.pointer (some ⟨wb,0,none⟩)] w fun e w' => e = .returned (.tuple #[.int .i64 0,.bool false]) /\ w = w' := by
 obtain ⟨se,me,sn,mn,sl,H,h1,h2,h3,h4,h5,h6,h7,h8,h9⟩ := h
 obtain ⟨hlt,c0,c1,c2,f2⟩ := h3.cells
 have hH := h7.eq_nil
 subst hH
 obtain ⟨a,cp,rfl,hn1,hn2⟩ := h3.2.1.rd.form
 clear h1 h2 h3 h4 h5 h6 h7 h8 h9 c0 c1 f2
 go_enter Tryz.func41,Tryz.ntmps41
 go_wp2
 go_ret2
 exact ⟨rfl,rfl⟩
theorem take_I (ok : Nat -> Prop) (wb : Nat) (E N : List Int) (w : World) (h : WqI ok w wb E N) (hn : N ≠ []) (hN : N.length <= 10000) :
  Calls Tryz.prog 41 #[.pointer (some ⟨wb,0,none⟩)] w fun e w' => ∃ x,e = .returned (.tuple #[.int .i64 x,.bool true]) /\ x ∈ N /\ (∀ y ∈ N,ltI y x = false) /\ WqI ok w' wb E (delS N x) /\ Kp ok w w' := by
 have hok := h.oks
 obtain ⟨se,me,sn,mn,sl,H,h1,h2,h3,h4,h5,h6,h7,h8,h9⟩ := h
 obtain ⟨hlt,c0,c1,c2,f2⟩ := h3.cells
 have hne : H ≠ [] := by
  rintro rfl
  exact hn h7.symm.eq_nil
 have hlen : H.length <= 10000 := by rw [h7.length_eq]; exact hN
 have hpos : 0 < H.length := List.length_pos_iff.2 hne
 obtain ⟨last,hlast⟩ : ∃ l,l + 1 = H.length := ⟨H.length - 1,by omega⟩
 rcases h3.2.1.cells with ⟨_,e'⟩ | ⟨g,cap,cur,rfl,hb,hg,_,n1,n2,n3,n4,_⟩
 ·exact absurd e' hne
 have ex := List.getElem?_eq_getElem hpos
 have ez := List.getElem?_eq_getElem (show last < H.length by omega)
 have d0 := n3 0 _ ex
 have dl := n3 last _ ez
 obtain ⟨x,hx⟩ : ∃ x,H[0] = x := ⟨_,rfl⟩
 obtain ⟨z,hz⟩ : ∃ z,H[last] = z := ⟨_,rfl⟩
 rw [hx] at d0 ex
 rw [hz] at dl ez
 have d0' : w.cell? ⟨g,0,none⟩ = some (.int .i64 x) := d0
 have dl' : w.cell? ⟨g,last,none⟩ = some (.int .i64 z) := dl
 have fg := n4 0
 have fl := n4 last
 have hgw : g ≠ wb := fun e => h2 g rfl (by rw [e]; simp)
 have hwg : wb ≠ g := fun e => hgw e.symm
 have HX := hid (show x ∈ N /\ (∀ y ∈ N,ltI y x = false) from ⟨h7.mem_iff.1 (List.mem_of_getElem? ex),fun y hy => h6.least toI ex y (h7.mem_iff.2 hy)⟩)
 have HOK := hid (hok x HX.out.1)
 have hl1 : (H.length : Int) - 1 = (last : Int) := by omega
 have hli : (last : Int) < (H.length : Int) := by omega
 have hp0 : (0 : Int) < (H.length : Int) := by omega
 have hn0 : ((H.length : Int) == 0) = false := beq_eq_false_iff_ne.2 (by omega)
 have hlc : last <= cap := by omega
 have H1 := hid h1
 have H2 := hid h2
 have H3 := hid h3
 have H4 := hid h4
 have H5 := hid h5
 have H6 := hid h6
 have H7 := hid h7
 have H8 := hid h8
 have H9 := hid (h9 g rfl)
 have HL := hid hlast
 have EX := hid ex
 have EZ := hid ez
 clear h1 h2 h3 h4 h5 h6 h7 h8 h9 n3 n4 ex ez d0 dl hx hz hok hb hg c0 c1 hlast
 go_enter Tryz.func41,Tryz.ntmps41
 go_wp2_with fail
 go_quiet (fail)
 obtain ⟨wq,hwq⟩ : ∃ q,q = w.drewN nq := ⟨_,rfl⟩
 rw [<- hwq]
 replace c2 : wq.cell? ⟨wb,2,none⟩ = some (.slice (some ⟨g,0,none⟩) H.length cap) := by rw [hwq]; exact c2
 replace d0' : wq.cell? ⟨g,0,none⟩ = some (.int .i64 x) := by rw [hwq]; exact d0'
 replace dl' : wq.cell? ⟨g,last,none⟩ = some (.int .i64 z) := by rw [hwq]; exact dl'
 replace fg : wq.frozen? ⟨g,0,none⟩ = false := by rw [hwq]; exact fg
 replace H3 : Hid (HwI wq 0 wb (.pointer (some ⟨se,0,none⟩)) (.pointer (some ⟨sn,0,none⟩)) (.slice (some ⟨g,0,none⟩) H.length cap) H) := hid (by rw [hwq]; exact H3.out)
 replace H4 : Hid (StI wq 0 se me E) := hid (by rw [hwq]; exact H4.out)
 replace H5 : Hid (StI wq 0 sn mn N) := hid (by rw [hwq]; exact H5.out)
 have HQ : Hid (Kp ok w wq) := hid (by rw [hwq]; exact Kp.of_kpt (.of_below (S := []) (below_drewN _ _ _)) (by simp))
 replace hlt : wb < wq.heap.size := by rw [hwq]; exact hlt
 clear hwq fl f2
 go_wp2_with fail
 go_region
 obtain ⟨w1,e1⟩ : ∃ q,q = (wq.setCell ⟨g,0,none⟩ (.int .i64 z)).drew := ⟨_,rfl⟩
 obtain ⟨w2,e2⟩ : ∃ q,q = w1.setCell ⟨g,last,none⟩ (.int .i64 0) := ⟨_,rfl⟩
 obtain ⟨w3,e3⟩ : ∃ q,q = w2.setCell ⟨wb,2,none⟩ (.slice (some ⟨g,0,none⟩) last cap) := ⟨_,rfl⟩
 obtain ⟨⟨m1,⟨u,m2⟩,m3⟩,⟨m4,m5⟩,G,g1,g2,g3,g4,g5⟩ := take_end_I H1.out H2.out H3.out H4.out H5.out H6.out H7.out H8.out H9.out EX.out EZ.out HL.out e1 e2 e3
 have hw1 : wb < w1.heap.size := by rw [e1]; simpa using hlt
 have G1 := hid g1
 have G2 := hid g2
 have G3 := hid g3
 have G4 := hid g4
 have G5 := hid g5
 rw [<- e1]
 clear g1 g2 g3 g4 g5 H1 H2 H3 H4 H5 H6 H7 H8 H9 EX EZ e1 c2 d0' dl' fg hlt
 go_upto_region 7 with fail
 rw [<- e2]
 clear m1 m2 m3 e2 hw1
 go_upto_region 8 with fail
 rw [<- e3]
 clear m4 m5 e3
 go_wp2_with fail
 refine (sink_I 0 wb _ _ _ G (0 : Int) w3 G4.out G3.out (by rw [G2.out]; omega)).mono ?_
 rintro e w4 ⟨rfl,H',r1,r2,r3,r4⟩
 obtain ⟨q1,q2,q3⟩ := G5.out w4 H' r1 r2 r3 r4
 have hlt4 := r1.cells.1
 have Q2 := hid q2
 have Q3 := hid q3
 clear r1 r2 r3 r4 q2 q3 G1 G2 G3 G4 G5
 go_wp2_with fail
 refine (drop_I 0 sn mn N x w4 Q2.out HOK.out).mono ?_
 rintro e w5 ⟨rfl,s1,s2⟩
 obtain ⟨t1,t2⟩ := Q3.out w5 s1 s2
 have T1 := hid t1
 have T2 := hid t2
 clear s1 s2 t1 t2 Q2 Q3 q1
 go_wp2
 go_ret2
 exact ⟨x,rfl,HX.out.1,HX.out.2,T1.out,HQ.out.trans T2.out⟩
theorem newwork_I (v : Value) (xs : List Int) (okr : Nat -> Prop) (w : World) (hr : RdC cI okr w v xs) (hx : ∀ x ∈ xs,okI x) (hl : xs.length <= 5000) :
  Calls Tryz.prog 39 #[v] w fun e w' => ∃ wb,e = .returned (.pointer (some ⟨wb,0,none⟩)) /\ WqI (fun b => w.heap.size <= b) w' wb (onceL xs) (onceL xs) /\ Below w.heap.size w w' := by
 obtain ⟨p,cap,rfl,h1,h2⟩ := hr.form
 unfold maxLen at h2
 have HR := hid hr
 clear hr
 go_enter Tryz.func39,Tryz.ntmps39
 go_wp2_with fail
 refine (new_I _ [] (fun _ => True) w (RdC.nil _ _) (by simp) (by simp)).mono ?_
 rintro e w1 ⟨se,me,rfl,hs1,hb1⟩
 rw [onceL_nil] at hs1
 have HB1 := hid hb1
 have HS1 := hid hs1
 clear hs1 hb1
 go_wp2_with fail
 refine (new_I _ [] (fun _ => True) w1 (RdC.nil _ _) (by simp) (by simp)).mono ?_
 rintro e w2 ⟨sn,mn,rfl,hs2,hb2⟩
 rw [onceL_nil] at hs2
 have HB2 := hid hb2
 have HS2 := hid hs2
 clear hs2 hb2
 go_upto_region 2 with fail
 obtain ⟨w3,hw3⟩ : ∃ z,z = w2.alloc (.cells #[.pointer (some ⟨se,0,none⟩),.pointer (some ⟨sn,0,none⟩),.slice none 0 0] 155) := ⟨_,rfl⟩
 rw [<- hw3]
 have hb3 : Below w2.heap.size w2 w3 := by rw [hw3]; exact (Below.refl _ w2).alloc (Nat.le_refl _) _
 have hbx : w3.heap[w2.heap.size]? = some (.cells #[.pointer (some ⟨se,0,none⟩),.pointer (some ⟨sn,0,none⟩),.slice none 0 0] 155 (0,0)) := by rw [hw3]; exact heap_alloc_new _ _
 have hs1 := (HS1.out.bel HB2.out).bel hb3
 have hs2 := HS2.out.bel hb3
 have hl1 := HS1.out.lt
 have hl2 := HS2.out.lt
 have hp1 := HS1.out.1
 have hp1' := HS1.out.2.1
 have hp2 := HS2.out.1
 have hp2' := HS2.out.2.1
 have hz1 := HB1.out.size
 have hz2 := HB2.out.size
 have W0 : Hid (WqI (fun b => w.heap.size <= b) w3 w2.heap.size [] []) := hid ⟨se,me,sn,mn,_,[],by simp; omega,(fun g e => by cases e),⟨hbx,OwnC.nil _ _,by simp [Value.ownBlock]⟩,hs1.mono (Nat.zero_le _),hs2.mono (Nat.zero_le _),Hp.nil _ _,List.Perm.refl _,(fun b hb => by
  simp only [List.mem_cons,List.not_mem_nil,or_false] at hb
  show w.heap.size <= b
  omega),(fun g e => by cases e)⟩
 have B0 : Hid (Below w.heap.size w w3) := hid ((HB1.out.trans (HB2.out.mono hz1)).trans (hb3.mono (by omega)))
 obtain ⟨wb,hwb⟩ : ∃ b,b = w2.heap.size := ⟨_,rfl⟩
 rw [<- hwb] at W0 ⊢
 clear hw3 hb3 hbx hs1 hs2 hl1 hl2 hp1 hp1' hp2 hp2' hz1 hz2 HS1 HS2 HB1 HB2 hwb
 go_wp2_with fail
 go_loopw [12] (fun v wr => ∃ i : Nat,v = .int .i64 (i : Int) /\ i <= xs.length /\ Hid (WqI (fun b => w.heap.size <= b) wr wb (onceL (xs.take i)) (onceL (xs.take i))) /\ Hid (Below w.heap.size w wr)) (fun v _ => xs.length - (intOf v).toNat)
 case atStart => exact ⟨0,rfl,by omega,W0,B0⟩
 case round =>
  clear W0 B0
  obtain ⟨i,rfl,hi,H1,HB⟩ := hrel
  by_cases hlt : i < xs.length
  ·have hlt' : (i : Int) < (xs.length : Int) := by omega
   have hne : xs ≠ [] := by rintro rfl; simp at hlt
   obtain ⟨b,off,rfl,hb,hbl,hc⟩ := HR.out.at hne
   have ci : wr.cell? ⟨b,off + i,none⟩ = some (.int .i64 xs[i]) := (HB.out.cell hbl).trans (hc i _ (List.getElem?_eq_getElem hlt))
   have hox := hx _ (List.getElem_mem hlt)
   have HT := hid (once_take hlt)
   obtain ⟨x,hxx⟩ : ∃ x,xs[i] = x := ⟨_,rfl⟩
   rw [hxx] at ci hox HT
   clear hc hxx
   have hol : (onceL (xs.take i)).length <= 10000 := by have := onceL_len (xs.take i); rw [List.length_take] at this; omega
   go_wp2_with fail
   refine (put_I _ wb _ _ x wr H1.out hox hol hol (fun b hb => Nat.le_trans HB.out.size hb)).mono ?_
   rintro e w4 ⟨rfl,hs4,hk4⟩
   rw [putN_self] at hs4
   have HS := hid hs4
   have HK := hid hk4
   clear hs4 hk4 H1 ci
   go_wp2_with fail
   go_roundw
   case rel => exact ⟨i + 1,by go_num,by omega,by rw [HT.out]; exact HS,hid (HB.out.trans (HK.out.below (fun b hb => hb) HB.out.size))⟩
   case measure => simp [intOf]; omega
  ·obtain rfl : i = xs.length := by omega
   rw [List.take_length] at H1
   clear hlt hi
   go_wp2
   go_ret
   exact ⟨_,rfl,H1.out,HB.out⟩
end Go.Proofs.YtfpeakkbbfnhcaaGreat.S
namespace Go.Proofs.YtfpeakkbbfnhcaaGreat.R
open Go.RowKit Go.Proofs.YtfpeakkbbfnhcaaGreat.D Go.Proofs.YtfpeakkbbfnhcaaGreat.O Go.Proofs.YtfpeakkbbfnhcaaGreat.A
def nextI (x : Ins) (a : Int) : List Int := (if endsB x.1 then [] else [a + 1]) ++ (if jumpsB x.1 /\ (endsB x.1 = true ∨ ¬ x.2.2.1 = a + 1) then [x.2.2.1] else [])
def szB (f : Fr) : Bool := f.2.1.all (fun t => decide (t.2.size <= 1000)) && (f.2.2.all (fun t => decide (t.2.size <= 1000)) && (decide (f.2.1.length <= 1000) && decide (f.2.2.length <= 1000)))
abbrev Flw := List Fr × List Int × List Int
def intoN (T : List Sk) (s : Flw) (f : Fr) (at_ : Nat) : Option (Flw × Int) :=
 if f = s.1.getD at_ noFr then some (s,0) else
 if ¬ (joinF T (s.1.getD at_ noFr) f).2 = 0 then some (s,(joinF T (s.1.getD at_ noFr) f).2) else
 if szB (joinF T (s.1.getD at_ noFr) f).1 = false then none else
 if (joinF T (s.1.getD at_ noFr) f).1 = s.1.getD at_ noFr then some (s,0) else
 if 5000 < s.2.1.length ∨ 5000 < s.2.2.length then none else
 some ((s.1.set at_ (joinF T (s.1.getD at_ noFr) f).1,S.addS s.2.1 (at_ : Int),S.addS s.2.2 (at_ : Int)),0)
def intoP (T : List Sk) (s : Flw) (f : Fr) (a : Int) : Option (Flw × Int) := if 0 <= a /\ a < (s.1.length : Int) then intoN T s f a.toNat else none
def intosP (T : List Sk) : List (Fr × Int) -> Flw -> Option (Flw × Int)
 | [],s => some (s,0)
 | (f,a) :: l,s => match intoP T s f a with
  | none => none
  | some r => if ¬ r.2 = 0 then some r else intosP T l r.1
def stepI (T : List Sk) (ret : Ty) (f : Fr) (x : Ins) : Fr × Int := stepC T f x.1 x.2.2.1 (chgI T ret f x.1 x.2.2.1 x.2.2.2.2.1)
def noIns : Ins := (0,0,0,es,es,es,es)
def noHnd : Hnd := (0,0,0,es)
def hndsN (H : List Hnd) (at_ : Int) : List Nat := (List.range H.length).filter fun k => decide ((H.getD k noHnd).1 <= at_ /\ at_ < (H.getD k noHnd).2.1)
def upP (T : List Sk) (ret : Ty) (C : List Ins) (H : List Hnd) (s : Flw) (at_ : Nat) : Option (Flw × Int) :=
 match intosP T ((hndsN H (at_ : Int)).map fun k => (caughtP (s.1.getD at_ noFr) (H.getD k noHnd).2.2.2,(H.getD k noHnd).2.2.1)) s with
 | none => none
 | some r => if ¬ r.2 = 0 then some r else
  if findB (C.getD at_ noIns).1 (C.getD at_ noIns).2.2.1 (s.1.getD at_ noFr).2.1.length = false then none else
  if ¬ (stepI T ret (s.1.getD at_ noFr) (C.getD at_ noIns)).2 = 0 then some (r.1,(stepI T ret (s.1.getD at_ noFr) (C.getD at_ noIns)).2) else
  if szB (stepI T ret (s.1.getD at_ noFr) (C.getD at_ noIns)).1 = false then none else
  intosP T ((nextI (C.getD at_ noIns) (at_ : Int)).map fun n => ((stepI T ret (s.1.getD at_ noFr) (C.getD at_ noIns)).1,n)) r.1
def leastI : List Int -> Int
 | [] => 0
 | [x] => x
 | x :: l => if x <= leastI l then x else leastI l
def inferP (T : List Sk) (ret : Ty) (C : List Ins) (H : List Hnd) : Nat -> Flw -> Option (List Fr × Int × Int)
 | 0,_ => none
 | n + 1,s => if s.2.2 = [] then some (s.1,0,0) else
  if 5000 < s.2.2.length then none else if ¬ (0 <= leastI s.2.2 /\ leastI s.2.2 < (s.1.length : Int)) then none else
  match upP T ret C H (s.1,s.2.1,S.delS s.2.2 (leastI s.2.2)) (leastI s.2.2).toNat with
  | none => none
  | some r => if ¬ r.2 = 0 then some ([],leastI s.2.2,r.2) else inferP T ret C H n r.1
def beginP (C : List Ins) (f : Fr) : Flw := (f :: List.replicate (C.length - 1) noFr,[0],[0])
def insO (o : Int) : Ins := (o,0,0,es,es,es,es)
def insK (o k : Int) : Ins := (o,0,k,es,es,es,es)
def codeLp (n p q : Nat) : List Ins := List.replicate n (insO 1) ++ List.replicate p (insO 1) ++ List.replicate q (insO 6) ++ [insO 1,insK 20 (n : Int),insO 40]
def loopB (n p q : Nat) : Bool :=
 match inferP [] (5,es) (codeLp n p q) [] 60 (beginP (codeLp n p q) (true,[],[])) with
 | none => false
 | some (l,at_,e) =>
  if q > p + n then e == 30 && at_ == ((n + p + (p + n) : Nat) : Int)
  else if ¬ p = q then e == 30 && at_ == (((codeLp n p q).length - 2 : Nat) : Int)
  else e == 0 && l.length == (codeLp n p q).length && (l.getD (l.length - 1) noFr).1 && (l.getD (l.length - 1) noFr).2.2.length == n
theorem loop_tab : ∀ n : Fin 3,∀ p : Fin 6,∀ q : Fin 6,loopB n p q = true := by decide +kernel
def codeCt : List Ins := [insO 1,insO 5,insO 2,insO 5,insO 40,insO 6,insO 4,insO 13,insO 6,insO 40]
def hndCt (f e : Nat) : List Hnd := [((f : Int),(e : Int),5,⟨#[70,97,117,108,116]⟩)]
def caughtB (f e : Nat) : Bool :=
 match inferP [] (5,es) codeCt (hndCt f e) 60 (beginP codeCt (true,[topT],[])) with
 | none => false
 | some (l,at_,x) =>
  if 2 <= f /\ e <= 4 then x == 0 && l.length == 10 && (l.getD 6 noFr).1 && (l.getD 6 noFr).2.1.length == 1 && ((l.getD 6 noFr).2.1.getD 0 topT).1 == 1
  else if f = 4 then x == 29 && at_ == 7 else x == 29 && (at_ == 6 || at_ == 7)
theorem caught_tab : ∀ f : Fin 5,∀ d : Fin 5,(d.val + f.val < 5) -> caughtB f.val (f.val + 1 + d.val) = true := by decide +kernel
end Go.Proofs.YtfpeakkbbfnhcaaGreat.R
namespace Go.Proofs.YtfpeakkbbfnhcaaGreat.A
open Go.RowKit Go.Proofs.YtfpeakkbbfnhcaaGreat.D Go.Proofs.YtfpeakkbbfnhcaaGreat.O
def argsI (m : Mth) : Int := if m.st then (m.params.length : Int) else 1 + (m.params.length : Int)
def inB (k n : Int) : Bool := decide (0 <= k /\ k < n)
def findsB (lo n : Int) (x : Ins) : Bool := if x.1 = 4 ∨ x.1 = 5 then inB x.2.2.1 lo else if jumpsB x.1 then inB x.2.2.1 n else true
def standsB (n : Int) (h : Hnd) : Bool := decide (0 <= h.1 /\ h.1 < h.2.1 /\ h.2.1 <= n) && inB h.2.2.1 n
def runsB (m : Mth) : Bool := decide (0 < m.code.length ∨ 0 < m.hs.length ∨ m.locals ≠ 0)
def badAt {α : Type} (f : α -> Bool) : List α -> Option Nat
 | [] => none
 | x :: l => if f x then (badAt f l).map (· + 1) else some 0
def lastB (c : List Ins) : Bool := match c[c.length - 1]? with | some x => endsB x.1 | none => false
def codeA (lo : Int) (c : List Ins) : Int × Int :=
 match badAt (findsB lo c.length) c with
 | some k => ((k : Int),28)
 | none => if lastB c then (0,0) else ((c.length : Int) - 1,31)
def mthA (m : Mth) : Int × Int :=
 if m.ab then (if runsB m then (-1,25) else (0,0)) else if m.code = [] then (-1,25) else if m.locals < argsI m then (-1,22) else
 if (codeA m.locals m.code).2 ≠ 0 then codeA m.locals m.code else if m.hs.all (standsB m.code.length) then (0,0) else (-1,28)
theorem badAt_some {α : Type} {f : α -> Bool} : ∀ {l : List α} {k : Nat} {y : α},(∀ (j : Nat) x,j < k -> l[j]? = some x -> f x = true) -> l[k]? = some y -> f y = false -> badAt f l = some k
 | [],k,y,_,h,_ => by simp at h
 | x :: l,0,y,_,h,hy => by
  simp only [List.getElem?_cons_zero,Option.some.injEq] at h
  subst h
  unfold badAt
  rw [if_neg (by rw [hy]; decide)]
 | x :: l,k + 1,y,h0,h,hy => by
  unfold badAt
  rw [if_pos (h0 0 x (by omega) rfl),badAt_some (f := f) (l := l) (k := k) (y := y) (fun j z hj hz => h0 (j + 1) z (by omega) hz) h hy]
  rfl
theorem badAt_none {α : Type} {f : α -> Bool} : ∀ {l : List α},(∀ (j : Nat) x,l[j]? = some x -> f x = true) -> badAt f l = none
 | [],_ => rfl
 | x :: l,h0 => by
  unfold badAt
  rw [if_pos (h0 0 x rfl),badAt_none (l := l) (fun j z hz => h0 (j + 1) z hz)]
  rfl
theorem all_some {α : Type} {f : α -> Bool} {l : List α} {k : Nat} {y : α} (h : l[k]? = some y) (hy : f y = false) : l.all f = false := by
 rw [List.all_eq_false]
 exact ⟨y,List.mem_of_getElem? h,by rw [hy]; decide⟩
theorem all_none {α : Type} {f : α -> Bool} {l : List α} (h : ∀ (j : Nat) x,l[j]? = some x -> f x = true) : l.all f = true := by
 rw [List.all_eq_true]
 intro x hx
 obtain ⟨j,hj⟩ := List.getElem?_of_mem hx
 exact h j x hj
theorem mthA_ab {m : Mth} (h : m.ab = true) : mthA m = if runsB m then (-1,25) else (0,0) := by unfold mthA; rw [if_pos h]
theorem mthA_no {m : Mth} (h : m.ab = false) (hc : m.code = []) : mthA m = (-1,25) := by unfold mthA; rw [if_neg (by rw [h]; decide),if_pos hc]
theorem mthA_few {m : Mth} (h : m.ab = false) (hc : ¬ m.code = []) (hl : m.locals < argsI m) : mthA m = (-1,22) := by unfold mthA; rw [if_neg (by rw [h]; decide),if_neg hc,if_pos hl]
theorem mthA_code {m : Mth} (h : m.ab = false) (hc : ¬ m.code = []) (hl : ¬ m.locals < argsI m) (he : (codeA m.locals m.code).2 ≠ 0) : mthA m = codeA m.locals m.code := by unfold mthA; rw [if_neg (by rw [h]; decide),if_neg hc,if_neg hl,if_pos he]
theorem mthA_hs {m : Mth} (h : m.ab = false) (hc : ¬ m.code = []) (hl : ¬ m.locals < argsI m) (he : (codeA m.locals m.code).2 = 0) : mthA m = if m.hs.all (standsB m.code.length) then (0,0) else (-1,28) := by unfold mthA; rw [if_neg (by rw [h]; decide),if_neg hc,if_neg hl,if_neg (by rw [he]; decide)]
end Go.Proofs.YtfpeakkbbfnhcaaGreat.A
namespace Go.Proofs.YtfpeakkbbfnhcaaGreat.R
open Go.RowKit Go.Proofs.YtfpeakkbbfnhcaaGreat.D Go.Proofs.YtfpeakkbbfnhcaaGreat.O Go.Proofs.YtfpeakkbbfnhcaaGreat.A
def frP : Pv Fr := fun ok w vs f => ∃ (pl : Option Addr) (cl : Nat) (ps : Option Addr) (cs : Nat),vs = [.bool f.1,.slice pl f.2.1.length cl,.slice ps f.2.2.length cs] /\ RdX 2 (sP tyC) ok w (.slice pl f.2.1.length cl) f.2.1 /\ RdX 2 (sP tyC) ok w (.slice ps f.2.2.length cs) f.2.2
theorem frP.grow : MonoG frP := by
 rintro ok ok' w w' vs f ⟨pl,cl,ps,cs,e,h1,h2⟩ ho hk hs
 exact ⟨pl,cl,ps,cs,e,h1.step (sP.grow _) ho hk hs,h2.step (sP.grow _) ho hk hs⟩
def intC (x : Int) : List Value := [.int .i64 x]
def badH (T : List Sk) : List Hnd -> Int
 | [] => 0
 | h :: l => if knownT T h.2.2.2 = false then 32 else if subT T h.2.2.2 fltT = false then 29 else badH T l
def inferW (T : List Sk) (cls : ByteArray) (m : Mth) : Option (List Fr × Int × Int) :=
 if m.ab = true ∨ ¬ (mthA m).2 = 0 then some ([],-1,28) else if ¬ badH T m.hs = 0 then some ([],-1,badH T m.hs)
 else inferP T m.ret m.code m.hs 60 (beginP m.code (entryP cls m.params m.st m.locals))
def okCode (C : List Ins) : Bool := C.all fun x => okIns x.1 && rightI x
def nextW (C : List Ins) (at_ : Int) : List Int := if 0 <= at_ /\ at_ < (C.length : Int) then nextI (C.getD at_.toNat noIns) at_ else []
def hndsW (C : List Ins) (H : List Hnd) (at_ : Int) : List Int := if 0 <= at_ /\ at_ < (C.length : Int) then (hndsN H at_).map fun (n : Nat) => (n : Int) else []
def mLoop (n p q : Nat) : Mth := ⟨⟨#[]⟩,[],(5,⟨#[]⟩),true,false,0,codeLp n p q,[]⟩
def mCaught (f e : Nat) : Mth := ⟨⟨#[]⟩,[],(5,⟨#[]⟩),true,false,1,codeCt,hndCt f e⟩
theorem loopW_tab : ∀ n : Fin 3,∀ p : Fin 6,∀ q : Fin 6,(inferW [] ⟨#[65]⟩ (mLoop n p q)).isSome = true /\ okCode (codeLp n p q) = true /\ ∀ R,inferW [] ⟨#[65]⟩ (mLoop n p q) = some R -> inferP [] (5,es) (codeLp n p q) [] 60 (beginP (codeLp n p q) (true,[],[])) = some R := by
 intro n p q
 have h1 : inferW [] ⟨#[65]⟩ (mLoop n p q) = inferP [] (5,es) (codeLp n p q) [] 60 (beginP (codeLp n p q) (true,[],[])) := by
  have key : ∀ n : Fin 3,∀ p : Fin 6,∀ q : Fin 6,(mthA (mLoop n p q)).2 = 0 := by decide +kernel
  unfold inferW
  rw [if_neg (by rintro (h | h); (· cases h); exact h (key n p q)),if_neg (by simp [mLoop,badH])]
  rfl
 refine ⟨?_,?_,fun R hR => by rw [<- h1]; exact hR⟩
 ·rw [h1]
  have := loop_tab n p q
  unfold loopB at this
  revert this
  cases inferP [] (5,es) (codeLp n p q) [] 60 (beginP (codeLp n p q) (true,[],[])) with
  | none => intro h; cases h
  | some R => intro _; rfl
 ·have key : ∀ n : Fin 3,∀ p : Fin 6,∀ q : Fin 6,okCode (codeLp n p q) = true := by decide +kernel
  exact key n p q
end Go.Proofs.YtfpeakkbbfnhcaaGreat.R
