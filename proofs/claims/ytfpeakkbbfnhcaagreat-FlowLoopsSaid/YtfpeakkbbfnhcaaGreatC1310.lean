/- Texts that the proof is made of, joined. No condition. -/
import Derived.Test.YtfpeakkbbfnhcaaGreatC139
import Derived.Test.YtfpeakkbbfnhcaaGreatC138
import Derived.Deep.RegionLaw
import Derived.Deep.RegionHeld3
import Derived.StillTailTactics
import Derived.Test.YtfpeakkbbfnhcaaGreatC135
import Derived.Test.YtfpeakkbbfnhcaaGreatC134
import Derived.Deep.DeepCutAuto
import Derived.Deep.CutBlock
import Derived.Test.YtfpeakkbbfnhcaaGreatC13H
set_option linter.unusedVariables false
set_option linter.unusedSimpArgs false
set_option maxRecDepth 100000
set_option maxHeartbeats 16000000
namespace Go.Proofs.YtfpeakkbbfnhcaaGreat.R
open Go.RowKit Go.Proofs.YtfpeakkbbfnhcaaGreat.D Go.Proofs.YtfpeakkbbfnhcaaGreat.O Go.Proofs.YtfpeakkbbfnhcaaGreat.A
theorem SzT.keep {a : List Cls} (h : SzT (a.map skOf)) : SzT ((keepL a).map skOf) := by
 refine ⟨?_,fun c hc => ?_⟩
 ·have h1 := h.1
  have h2 := keepL_len a
  rw [List.length_map] at h1 ⊢
  omega
 ·obtain ⟨d,hd,rfl⟩ := List.mem_map.1 hc
  exact h.2 _ (List.mem_map.2 ⟨d,keepL_mem a d hd,rfl⟩)
theorem SzT.front {a : List Cls} (h : SzT (a.map skOf)) (i : Nat) : SzT ((a.take i).map skOf) := by
 refine ⟨?_,fun c hc => ?_⟩
 ·have h1 := h.1
  rw [List.length_map] at h1 ⊢
  rw [List.length_take]
  omega
 ·obtain ⟨d,hd,rfl⟩ := List.mem_map.1 hc
  exact h.2 _ (List.mem_map.2 ⟨d,List.mem_of_mem_take hd,rfl⟩)
def okR (B tb mb : Nat) (vs : Value) : Nat -> Prop := fun b => B <= b /\ b ≠ tb /\ b ≠ mb /\ vs.ownBlock ≠ some b
def TrB (w : World) (B tb mb : Nat) (vs : Value) (rs : List (Raw 6)) (L : List ByteArray) (K : List Cls) : Prop :=
 w.heap[tb]? = some (.cells #[vs,.map (some mb)] 99 (0,0)) /\ B <= tb /\ B <= mb /\ OwnX 6 42 (sP rawC) w B vs rs /\ All2 (fun r c => cP (okR B tb mb vs) w (rawC r) c) rs K /\ vs.ownBlock ≠ some tb /\ vs.ownBlock ≠ some mb /\ Mp w mb L.length L
theorem TrB.lt {w : World} {B tb mb : Nat} {vs : Value} {rs : List (Raw 6)} {L : List ByteArray} {K : List Cls} (h : TrB w B tb mb vs rs L K) : tb < w.heap.size /\ mb < w.heap.size /\ tb ≠ mb := by
 obtain ⟨h1,_,_,_,_,_,_,h8⟩ := h
 obtain ⟨es,cl,hm⟩ := h8.map
 refine ⟨(Array.getElem?_eq_some_iff.1 h1).1,(Array.getElem?_eq_some_iff.1 hm).1,?_⟩
 rintro rfl
 rw [h1] at hm
 cases hm
theorem TrB.cells {w : World} {B tb mb : Nat} {vs : Value} {rs : List (Raw 6)} {L : List ByteArray} {K : List Cls} (h : TrB w B tb mb vs rs L K) : tb < w.heap.size /\ w.cell? ⟨tb,0,none⟩ = some vs /\ w.cell? ⟨tb,1,none⟩ = some (.map (some mb)) /\ w.frozen? ⟨tb,0,none⟩ = false := by
 have h3 := h.1
 refine ⟨(Array.getElem?_eq_some_iff.1 h3).1,?_,?_,?_⟩ <;> simp [World.cell?,World.frozen?,h3]
theorem TrB.below {w w' : World} {B tb mb : Nat} {vs : Value} {rs : List (Raw 6)} {L : List ByteArray} {K : List Cls} (h : TrB w B tb mb vs rs L K) (hb : Below w.heap.size w w') : TrB w' B tb mb vs rs L K := by
 have hlt := h.lt
 obtain ⟨h1,h2,h3,h4,h5,h6,h7,h8⟩ := h
 exact ⟨(hb.block _ hlt.1).trans h1,h2,h3,h4.kptS (.of_below hb : Kpt [] w w') (fun _ _ => by simp),h5.imp (fun r c h => cP.grow _ _ _ _ _ _ h (fun _ h _ => h) (.of_below hb) hb.size),h6,h7,h8.kpt (.of_below hb : Kpt [] w w') (by simp)⟩
theorem TrB.store {w w' : World} {B tb mb : Nat} {vs : Value} {rs : List (Raw 6)} {L L' : List ByteArray} {K : List Cls} (h : TrB w B tb mb vs rs L K) (hm : Mp w' mb L'.length L') (hg : w.grownBy w' (some mb)) : TrB w' B tb mb vs rs L' K /\ Kpt [mb] w w' := by
 have hlt := h.lt
 obtain ⟨h1,h2,h3,h4,h5,h6,h7,h8⟩ := h
 have k : Kpt [mb] w w' := .of_grown hg (fun g e => by cases e; exact .inl (by simp))
 exact ⟨⟨(k.2 _ hlt.1 (by simpa using hlt.2.2)).trans h1,h2,h3,h4.kptS k (fun g e => by simp; rintro rfl; exact h7 e),h5.imp (fun r c h => cP.grow _ _ _ _ _ _ h (fun _ h _ => h) (.of_kpt k (fun b hb => by simpa using hb.2.2.1)) k.size),h6,h7,hm⟩,k⟩
theorem TrB.app {w w1 : World} {B tb mb : Nat} {vs v' : Value} {rs : List (Raw 6)} {L : List ByteArray} {K : List Cls} {rX : Raw 6} {c : Cls} (h : TrB w B tb mb vs rs L K) (hB : B <= w.heap.size) (hm : cP (okR B tb mb vs) w (rawC rX) c) (ho : OwnX 6 42 (sP rawC) w1 B v' (rs ++ [rX])) (hg : w.grownBy w1 vs.ownBlock) (hl : v'.ownBlock = vs.ownBlock ∨ v'.ownBlock = some w.heap.size) :
  tb < w1.heap.size /\ w1.cell? ⟨tb,0,none⟩ = some vs /\ w1.frozen? ⟨tb,0,none⟩ = false /\ TrB (w1.setCell ⟨tb,0,none⟩ v') B tb mb v' (rs ++ [rX]) L (K ++ [c]) /\ Below B w (w1.setCell ⟨tb,0,none⟩ v') := by
 have hlt := h.lt
 obtain ⟨h1,h2,h3,h4,h5,h6,h7,h8⟩ := h
 have hw1 : w1.heap[tb]? = some (.cells #[vs,.map (some mb)] 99 (0,0)) := by rw [hg.block tb hlt.1 (fun e => h6 e.symm)]; exact h1
 have k1 : Kpt vs.ownBlock.toList w w1 := .of_grown hg (fun g e => .inl (by rw [e]; simp))
 have k2 : Kpt [tb] w1 (w1.setCell ⟨tb,0,none⟩ v') := Kpt.set _ _ _ _ _ (by simp)
 have hne : ∀ {x : Nat},x < w.heap.size -> vs.ownBlock ≠ some x -> v'.ownBlock ≠ some x := fun {x} hx hv => by
  rcases hl with e | e
  ·rw [e]; exact hv
  ·rw [e]; simp only [ne_eq,Option.some.injEq]; omega
 have kk : Keeps (okR B tb mb vs) w (w1.setCell ⟨tb,0,none⟩ v') := fun b hb hlb => by
  rw [k2.2 b (Nat.lt_of_lt_of_le hlb hg.size) (by simpa using hb.2.1),k1.2 b hlb (by simpa using fun e => hb.2.2.2 e)]
 have hoo : ∀ b,okR B tb mb vs b -> b < w.heap.size -> okR B tb mb v' b := fun b hb hlb => ⟨hb.1,hb.2.1,hb.2.2.1,hne hlb hb.2.2.2⟩
 have hsz : w.heap.size <= (w1.setCell ⟨tb,0,none⟩ v').heap.size := Nat.le_trans hg.size k2.size
 refine ⟨Nat.lt_of_lt_of_le hlt.1 hg.size,by simp [World.cell?,hw1],by simp [World.frozen?,hw1],⟨?_,h2,h3,ho.kptS k2 (fun g e => by simp; rintro rfl; exact hne hlt.1 h6 e),?_,hne hlt.1 h6,hne hlt.2.1 h7,(h8.kpt k1 (by simpa using h7)).kpt k2 (by simpa using hlt.2.2.symm)⟩,?_⟩
 ·rw [heap_setCell_same w1 tb 0 _ _ _ hw1]; rfl
 ·exact (h5.imp (fun r x h => cP.grow _ _ _ _ _ _ h hoo kk hsz)).app ⟨cP.grow _ _ _ _ _ _ hm hoo kk hsz,trivial⟩
 ·have b1 : Below B w w1 := ⟨hg.os,hg.tape,hg.output,hg.size,fun k hk => hg.block k (by omega) (fun e => by have := (h4.lt k e.symm).1; omega)⟩
  exact b1.trans (k2.below (fun x hx => by simp at hx; omega) (Nat.le_trans hB hg.size))
theorem TrB.done {w : World} {B tb mb : Nat} {vs : Value} {rs : List (Raw 6)} {K : List Cls} (h : TrB w B tb mb vs rs (K.map (·.name)) K) (hs : SzT (K.map skOf)) : TrW w (fun b => B <= b) tb mb vs K := by
 obtain ⟨h1,h2,h3,h4,h5,h6,h7,h8⟩ := h
 rw [List.length_map] at h8
 exact ⟨h2,h3,h1,(h4.rd (sP.grow _)).raw (h5.imp (fun r x h => cP.grow _ _ _ _ _ _ h (fun b hb _ => hb.1) (fun _ _ _ => rfl) (Nat.le_refl _))),h8,hs⟩
theorem TrB.ready {W wx : World} {B tb mb : Nat} {vs : Value} {rs : List (Raw 6)} {L : List ByteArray} {K : List Cls} (h : TrB W B tb mb vs rs L K) (hB : B <= W.heap.size) {l : List Value} {c : Cls} (hco : cO (fun b => W.heap.size <= b) wx l c) (hbx : Below W.heap.size W wx) (lit : Array Value) (hlit : lit.toList = l) :
  ∃ rX : Raw 6,RdX 6 (sP rawC) anyB (wx.alloc (.cells lit 42)) (.slice (some ⟨wx.heap.size,0,none⟩) 1 1) [rX] /\ cP (okR B tb mb vs) (wx.alloc (.cells lit 42)) (rawC rX) c /\ TrB (wx.alloc (.cells lit 42)) B tb mb vs rs L K /\ Below W.heap.size W (wx.alloc (.cells lit 42)) := by
 have hb := below_alR wx (.cells lit 42)
 have hlt := h.lt
 have hown := h.2.2.2.1.lt
 refine ⟨⟨l,shape_cO _ _ _ _ hco⟩,rdX_lit1 rawC_len wx (⟨l,shape_cO _ _ _ _ hco⟩ : Raw 6) _ _ hlit,?_,(h.below hbx).below hb,hbx.trans (hb.mono hbx.size)⟩
 refine cP.grow _ _ _ _ _ _ hco.rd (fun b (hb : W.heap.size <= b) _ => ⟨Nat.le_trans hB hb,by omega,by omega,fun e => ?_⟩) (.of_below hb) hb.size
 have := (hown b e).2
 omega
theorem TrB.len {w : World} {B tb mb : Nat} {vs : Value} {rs : List (Raw 6)} {L : List ByteArray} {K : List Cls} (h : TrB w B tb mb vs rs L K) : ∃ p c,vs = .slice p K.length c /\ rs.length = K.length := by
 obtain ⟨p,c,e,_⟩ := (h.2.2.2.1.rd (sP.grow _)).len
 have hl := h.2.2.2.2.1.len
 rw [hl] at e
 exact ⟨p,c,e,hl⟩
theorem New_t (A : List Cls) (p : Option Addr) (cap : Nat) (ok : Nat -> Prop) (w : World) (hr : RdX 6 cP ok w (.slice p A.length cap) A) (hs : SzT (A.map skOf)) (hf : ∀ c ∈ A,FewC c) :
  Calls Tryz.prog 12 #[.agg #[.slice p A.length cap]] w fun e w' => ∃ tb mb vs,e = .returned (.pointer (some ⟨tb,0,none⟩)) /\ TrW w' (fun b => w.heap.size <= b) tb mb vs (keepL A) /\ Below w.heap.size w w' := by
 have HR := hid hr
 have HS := hid hs
 have HF := hid hf
 have hAl : A.length <= 1000 := by have := hs.1; rwa [List.length_map] at this
 have hcap : A.length <= cap := by obtain ⟨_,_,e,h,_⟩ := hr; simp only [Value.slice.injEq] at e; rw [e.2.2]; exact h
 clear hr hs hf
 have hmm := @run_makeMap Tryz.prog
 go_enter Tryz.func12,Tryz.ntmps12
 go_wp2_with fail
 have hal := heap_alloc_new ((w.alloc (.cells #[.slice p A.length cap] 28)).alloc (.map #[] 0)) (.cells #[.slice none 0 0,.map (some (w.heap.size + 1))] 99)
 have hmp := Mp.made (w.alloc (.cells #[.slice p A.length cap] 28))
 rw [World.size_alloc,World.size_alloc] at hal
 rw [World.size_alloc] at hmp
 have H0 : TrB (((w.alloc (.cells #[.slice p A.length cap] 28)).alloc (.map #[] 0)).alloc (.cells #[.slice none 0 0,.map (some (w.heap.size + 1))] 99)) w.heap.size (w.heap.size + 2) (w.heap.size + 1) (.slice none 0 0) [] [] [] := ⟨hal,by omega,by omega,OwnX.nil _ _ _ _ _,trivial,by simp [Value.ownBlock],by simp [Value.ownBlock],hmp.kpt (Kpt.alloc [] _ _) (by simp)⟩
 obtain ⟨w0,hw0⟩ : ∃ x,x = (((w.alloc (.cells #[.slice p A.length cap] 28)).alloc (.map #[] 0)).alloc (.cells #[.slice none 0 0,.map (some (w.heap.size + 1))] 99)) := ⟨_,rfl⟩
 rw [<- hw0] at H0 ⊢
 have HB0 : Hid (Below w.heap.size w w0) := hid (by rw [hw0]; exact (((Below.refl _ w).alloc (Nat.le_refl _) _).alloc (by simp) _).alloc (by simp; omega) _)
 have H1 := hid H0
 clear H0 hw0 hal hmp hmm
 obtain ⟨tb,htb⟩ : ∃ x,w.heap.size + 2 = x := ⟨_,rfl⟩
 obtain ⟨mb,hmb⟩ : ∃ x,w.heap.size + 1 = x := ⟨_,rfl⟩
 rw [htb,hmb] at H1
 rw [htb]
 clear htb hmb
 go_loopw [12] (fun x wr => ∃ (i : Nat) (vs : Value) (rs : List (Raw 6)),x = .int .i64 (i : Int) /\ i <= A.length /\ Hid (TrB wr w.heap.size tb mb vs rs ((keepL (A.take i)).map (·.name)) (keepL (A.take i))) /\ Hid (Below w.heap.size w wr)) (fun x _ => A.length - (intOf x).toNat)
 case atStart => exact ⟨0,_,[],rfl,by omega,H1,HB0⟩
 case round =>
  clear H1 HB0
  obtain ⟨i,vs,rs,rfl,hi,HI,HB⟩ := hrel
  by_cases hlt : i < A.length
  ·obtain ⟨c,hc⟩ : ∃ c,A[i]? = some c := ⟨_,List.getElem?_eq_getElem hlt⟩
   have hlt' : (i : Int) < (A.length : Int) := by omega
   have i0 : (0 : Int) <= (i : Int) := by omega
   have hne : A ≠ [] := by rintro rfl; simp at hlt
   obtain ⟨b,off,rfl,-,-,hBb,hbl,hcells⟩ := HR.out.place hne
   obtain ⟨l,⟨vi,vf,vm,rfl,k1,k2,k3⟩,hcell⟩ := hcells _ _ hc
   obtain ⟨pi,ci,rfl,-⟩ := k1.len
   obtain ⟨pf,cf,rfl,-⟩ := k2.len
   obtain ⟨pm,cm,rfl,-⟩ := k3.len
   have hcell1 := hcell.below HB.out hbl
   obtain ⟨y0,y1,y2,y3,y4,y5⟩ := hcell1.six
   have hzr := HB.out.size
   replace hbl : b < wr.heap.size := by omega
   have bne : b ≠ wr.heap.size := by omega
   have hmem := List.mem_of_getElem? hc
   have HFC := hid (HF.out c hmem)
   have hnm : c.name.size <= maxLen := (HS.out.2 _ (List.mem_map.2 ⟨c,hmem,rfl⟩)).1
   have hks := ((HS.out.front i).keep)
   have hKl := keepL_len (A.take i)
   rw [List.length_take] at hKl
   have HKN := hid (keep_take hc)
   obtain ⟨K,hK⟩ : ∃ x,keepL (A.take i) = x := ⟨_,rfl⟩
   rw [hK] at HI hks HKN hKl
   clear hK
   have HKS := hid hks
   obtain ⟨w2,hw2⟩ : ∃ x,x = wr.alloc (.cells #[.string c.name,.string c.super,.slice pi c.ifaces.length ci,.int .i64 c.kind,.slice pf c.fields.length cf,.slice pm c.methods.length cm] 42) := ⟨_,rfl⟩
   have hb2 : Below wr.heap.size wr w2 := by rw [hw2]; exact below_alR _ _
   have HI2 := hid (HI.out.below hb2)
   have HB2 := hid (HB.out.trans (hb2.mono hzr))
   have hz2 : wr.heap.size + 1 <= w2.heap.size := by rw [hw2]; simp
   have hX2 : w2.heap[wr.heap.size]? = some (.cells #[.string c.name,.string c.super,.slice pi c.ifaces.length ci,.int .i64 c.kind,.slice pf c.fields.length cf,.slice pm c.methods.length cm] 42 (0,0)) := by rw [hw2]; exact heap_alloc_new _ _
   have HX2 := hid hX2
   have K1 := hid (k1.step (sP.grow _) (ok' := fun b => b < w.heap.size) (fun _ _ hl => hl) (.of_below HB2.out) HB2.out.size)
   have K2 := hid (k2.step (sP.grow _) (ok' := fun b => b < w.heap.size) (fun _ _ hl => hl) (.of_below HB2.out) HB2.out.size)
   have K3 := hid (k3.step mP.grow (ok' := fun b => b < w.heap.size) (fun _ _ hl => hl) (.of_below HB2.out) HB2.out.size)
   clear hcells hcell hcell1 hc k1 k2 k3 hne hBb hks hX2 hb2 HI HB hmem
   go_upto_region 5 with fail
   rw [<- hw2]
   clear hw2 y0 y1 y2 y3 y4 y5 hbl bne
   obtain ⟨xb,hxb⟩ : ∃ x,wr.heap.size = x := ⟨_,rfl⟩
   rw [hxb] at HX2 hz2 hzr ⊢
   clear hxb
   obtain ⟨xl,xc,xf⟩ := boxN HX2.out
   have x0 := xc 0 _ rfl
   simp only [Nat.zero_add] at x0
   clear xc xf
   cases hkn : knownT (K.map skOf) c.name with
   | true =>
    have HK2 : Hid (keepL (A.take (i + 1)) = K) := hid (by rw [HKN.out]; unfold keep1; rw [if_pos hkn])
    go_wp2_with fail
    refine (known_t _ tb mb vs K c.name w2 (HI2.out.done HKS.out) hnm).mono ?_
    rw [hkn]
    rintro e w3 ⟨rfl,hb3⟩
    have HI3 := hid (HI2.out.below hb3)
    have HB3 := hid (HB2.out.trans (hb3.mono HB2.out.size))
    clear hb3 HI2 HB2
    go_wp2_with fail
    go_roundw
    case rel => exact ⟨i + 1,vs,rs,by go_num,by omega,by rw [HK2.out]; exact HI3,HB3⟩
    case measure => simp [intOf]; omega
   | false =>
    have HK2 : Hid (keepL (A.take (i + 1)) = K ++ [c]) := hid (by rw [HKN.out]; unfold keep1; rw [if_neg (by rw [hkn]; simp)])
    have HNI := hid (not_name hkn)
    go_wp2_with fail
    refine (known_t _ tb mb vs K c.name w2 (HI2.out.done HKS.out) hnm).mono ?_
    rw [hkn]
    rintro e w3 ⟨rfl,hb3⟩
    have HI3 := hid (HI2.out.below hb3)
    have HB3 := hid (HB2.out.trans (hb3.mono HB2.out.size))
    have HX3 := hid ((hb3.block _ xl).trans HX2.out)
    have J1 := hid (K1.out.any (sP.grow _) hb3)
    have J2 := hid (K2.out.any (sP.grow _) hb3)
    have J3 := hid (K3.out.any mP.grow hb3)
    have hz3 := hb3.size
    clear hb3 HI2 HB2 HX2 K1 K2 K3 x0
    obtain ⟨vp,vc,hvs,hrl⟩ := HI3.out.len
    subst hvs
    obtain ⟨tl,t0,t1,tz⟩ := HI3.out.cells
    replace xl : xb < w3.heap.size := by omega
    obtain ⟨-,xc,-⟩ := boxN HX3.out
    have x0 := xc 0 _ rfl
    simp only [Nat.zero_add] at x0
    clear xc
    have hm3 := HI3.out.2.2.2.2.2.2.2
    go_wp2_with fail
    obtain ⟨L,hL⟩ : ∃ x,K.map (·.name) = x := ⟨_,rfl⟩
    have hLl : L.length = K.length := by rw [<- hL,List.length_map]
    have HLL := hid hLl
    have HLE := hid hL
    rw [hL] at HI3 HNI hm3
    clear hL hLl
    have hm4 : Mp w3.drew mb L.length L := hm3.kpt (.of_below (below_drU w3) : Kpt [] w3 w3.drew) (by simp)
    have HI4 := hid (HI3.out.below (below_drU w3))
    have HB4 := hid (HB3.out.trans ((below_drU w3).mono HB3.out.size))
    have HX4 := hid (((below_drU w3).block _ xl).trans HX3.out)
    have G1 := hid (J1.out.any (sP.grow _) (below_drU w3))
    have G2 := hid (J2.out.any (sP.grow _) (below_drU w3))
    have G3 := hid (J3.out.any mP.grow (below_drU w3))
    have hz4 : xb < w3.drew.heap.size := xl
    go_still_tail 11,(by kernel_rfl)
    change wpList _ _ _ _ _ w3.drew
    obtain ⟨w4,hw4⟩ : ∃ x,x = w3.drew := ⟨_,rfl⟩
    rw [<- hw4] at hm4 HI4 HB4 HX4 G1 G2 G3 hz4 ⊢
    clear hw4 HI3 HB3 HX3 J1 J2 J3 hm3 tl t0 t1 tz x0 xl
    go_wp2_with (at_mapUpdate; refine wp_store rfl _ _ _ rfl mb L rfl hm4 c.name hnm rfl (by rw [HLL.out]; rfl) HNI.out (by rw [HLL.out]; omega) ?_)
    intro w5 hm5 hg5
    obtain ⟨hI5,k5⟩ := HI4.out.store (L' := L ++ [c.name]) (by simpa using hm5) hg5
    have hxm : xb ≠ mb := by
     rintro rfl
     obtain ⟨es,cl,hmm⟩ := HI4.out.2.2.2.2.2.2.2.map
     rw [HX4.out] at hmm
     cases hmm
    have hX5 := (k5.2 _ hz4 (by simpa using hxm)).trans HX4.out
    have hb5 : Below w.heap.size w4 w5 := k5.below (fun x hx => by rw [List.mem_singleton.1 hx]; exact HI4.out.2.2.1) HB4.out.size
    have HB5 := hid (HB4.out.trans hb5)
    have hmb := HI4.out.2.2.1
    have kb : ∀ b,b < w.heap.size -> b ∉ [mb] := fun b hb => by simp; omega
    have F1 := hid ((G1.out.step (sP.grow _) (fun _ h _ => h) (.of_kpt k5 kb) k5.size).any (sP.grow _) (below_drU w5))
    have F2 := hid ((G2.out.step (sP.grow _) (fun _ h _ => h) (.of_kpt k5 kb) k5.size).any (sP.grow _) (below_drU w5))
    have F3 := hid ((G3.out.step mP.grow (fun _ h _ => h) (.of_kpt k5 kb) k5.size).any mP.grow (below_drU w5))
    have hxl : xb < w5.heap.size := Nat.lt_of_lt_of_le hz4 k5.size
    have hXx := ((below_drU w5).block _ hxl).trans hX5
    have hCx := hI5.below (below_drU w5)
    have hBx := HB5.out.trans ((below_drU w5).mono HB5.out.size)
    have hKb : K.length <= 1000 := by omega
    clear hm5 hg5 hI5 k5 hX5 hb5 HI4 HB4 HX4 G1 G2 G3 HB5 hm4 hz4 hxm
    go_wp2_with fail
    obtain ⟨t9,t0,t1,tz⟩ := hCx.cells
    obtain ⟨xl,xc,xf⟩ := boxN hXx
    have x0 := xc 0 _ rfl
    have x1 := xc 1 _ rfl
    have x2 := xc 2 _ rfl
    have x3 := xc 3 _ rfl
    have x4 := xc 4 _ rfl
    have x5 := xc 5 _ rfl
    simp only [Nat.zero_add] at x0 x1 x2 x3 x4 x5
    clear xc xf
    go_region_law (first
     | (refine step_appM inf_cls (shape_raw 6) (by rfl) _ _ (by rfl) w.heap.size _ rs (by rfl) hCc.2.2.2.1 _ 0 1 1 [rX] (by rfl) hsrc.out (by simp <;> omega) hBc ?_; intro v6 w6 ho6 hg6 hl6; obtain ⟨e1,e2,e3,hC6,hB6⟩ := hCc.app hBc hmX.out ho6 hg6 hl6; obtain ⟨pq,nq,cq,hv6⟩ := ho6.slice; subst hv6; have HC6 := hid hC6; have HB6 := hid hB6; clear hC6 hB6 ho6 hg6 hl6)
     | (rw [if_pos (by rfl)]; go_simp; go_at_call 36; refine (copyc_t c pi pf pm _ ci _ cf _ cm _ F1.out F2.out F3.out HFC.out.1 HFC.out.2.1 HFC.out.2.2.1 HFC.out.2.2.2).mono ?_; rintro e wx ⟨qi,mi,di,qf,mf,df,qm,mm,dm,rfl,hco,hbx⟩; have hCw := hCx.below hbx; obtain ⟨s9,s0,s1,sz⟩ := hCw.cells; obtain ⟨rX,hsrc0,hcp,hCc,hbz⟩ := hCx.ready hBx.size hco hbx #[.string c.name,.string c.super,.slice qi mi di,.int .i64 c.kind,.slice qf mf df,.slice qm mm dm] rfl; have hmX := hid hcp; have hsrc := hid hsrc0; have hBz := hBx.trans (hbz.mono hBx.size); have hBc := hBz.size; have HBz := hid hBz; obtain ⟨r9,r0,r1,rz⟩ := hCc.cells; clear hcp hco hBz hsrc0 hbz))
    all_goals
     obtain ⟨W7,hW7⟩ : ∃ x,x = w6.setCell ⟨tb,0,none⟩ (.slice pq nq cq) := ⟨_,rfl⟩
     rw [<- hW7] at HC6 HB6 ⊢
     have HBf := hid (HBz.out.trans HB6.out)
     have HCf : Hid (TrB W7 w.heap.size tb mb (.slice pq nq cq) (rs ++ [rX]) ((keepL (A.take (i + 1))).map (·.name)) (keepL (A.take (i + 1)))) := hid (by rw [HK2.out,List.map_append,HLE.out]; exact HC6.out)
     clear hW7 HC6 HB6 HBz e1 e2 e3
     go_wp2_with fail
     go_roundw
     case rel => exact ⟨i + 1,_,_,by go_num,by omega,HCf,HBf⟩
     case measure => simp [intOf]; omega
  ·have hlt' : ¬ (i : Int) < (A.length : Int) := by omega
   obtain rfl : i = A.length := by omega
   rw [List.take_length] at HI
   go_wp2_with fail
   go_ret
   exact ⟨_,rfl,⟨_,_,HI.out.done HS.out.keep⟩,HB.out⟩
end Go.Proofs.YtfpeakkbbfnhcaaGreat.R
namespace Go.Proofs.YtfpeakkbbfnhcaaGreat.R
open Go.RowKit Go.Proofs.YtfpeakkbbfnhcaaGreat.D Go.Proofs.YtfpeakkbbfnhcaaGreat.O Go.Proofs.YtfpeakkbbfnhcaaGreat.A
def TrN (w : World) (ok : Nat -> Prop) (vt : Value) (K : List Cls) : Prop := (∃ tb mb vs,vt = .pointer (some ⟨tb,0,none⟩) /\ TrW w ok tb mb vs K) ∨ (vt = .pointer none /\ K = [])
theorem TrN.below {w w' : World} {ok : Nat -> Prop} {vt : Value} {K : List Cls} (h : TrN w ok vt K) (hb : Below w.heap.size w w') : TrN w' ok vt K := by
 rcases h with ⟨tb,mb,vs,e,h⟩ | h
 ·exact .inl ⟨tb,mb,vs,e,h.below hb⟩
 ·exact .inr h
theorem orEmpty_y (ok : Nat -> Prop) (vt : Value) (K : List Cls) (w : World) (h : TrN w ok vt K) :
  Calls Tryz.prog 199 #[vt] w fun e w' => ∃ tb mb vs ok',e = .returned (.pointer (some ⟨tb,0,none⟩)) /\ TrW w' ok' tb mb vs K /\ Below w.heap.size w w' := by
 rcases h with ⟨tb,mb,vs,rfl,ht⟩ | ⟨rfl,rfl⟩
 ·have HT := hid ht
  clear ht
  go_enter Tryz.func199,Tryz.ntmps199
  go_wp2_with fail
  go_ret
  exact ⟨tb,mb,vs,ok,rfl,HT.out,Below.refl _ _⟩
 ·go_enter Tryz.func199,Tryz.ntmps199
  go_wp2_with fail
  refine (New_t [] none 0 anyB w (RdX.nil _ _ _ _) ⟨by decide,fun c hc => by cases hc⟩ (fun c hc => by cases hc)).mono ?_
  rintro e w' ⟨tb,mb,vs,rfl,ht,hb⟩
  have HT := hid ht
  have HB := hid hb
  clear ht hb
  go_wp2_with fail
  go_ret
  exact ⟨tb,mb,vs,_,rfl,HT.out,HB.out⟩
theorem c2_kpt {W W' : World} {g r : Nat} {k : Int} {s : ByteArray} (h : g < W.heap.size /\ W.cell? ⟨g,0,none⟩ = some (.int .i64 k) /\ W.cell? ⟨g,1,none⟩ = some (.string s)) (hk : Kpt [r] W W') (hne : g ≠ r) : g < W'.heap.size /\ W'.cell? ⟨g,0,none⟩ = some (.int .i64 k) /\ W'.cell? ⟨g,1,none⟩ = some (.string s) := by
 have e := hk.2 g h.1 (by simpa using hne)
 exact ⟨Nat.lt_of_lt_of_le h.1 hk.size,by rw [<- h.2.1]; simp only [World.cell?,e],by rw [<- h.2.2]; simp only [World.cell?,e]⟩
theorem set2_kpt (W : World) (r o o2 : Nat) (u v : Value) : Kpt [r] W ((W.setCell ⟨r,o,none⟩ u).setCell ⟨r,o2,none⟩ v) := (Kpt.set [r] W r o u (by simp)).trans (Kpt.set [r] _ r o2 v (by simp)) (fun _ h => .inl h)
theorem join_r (vt : Value) (s1 s2 : ByteArray) (ok : Nat -> Prop) (K : List Cls) (w : World) (hs : ¬ s1 = s2) (z1 : s1.size <= maxLen) (z2 : s2.size <= maxLen) (V : ByteArray) (hv : commonT (K.map skOf) s1 s2 = V) (h : TrN w ok vt K) :
  Calls Tryz.prog 184 #[vt,.agg #[.int .i64 4,.string s1],.agg #[.int .i64 4,.string s2]] w fun e w' => e = .returned (tyv (4,V)) /\ Below w.heap.size w w' := by
 have HT := hid h
 have HV := hid hv
 replace z1 := hid z1
 replace z2 := hid z2
 clear h hv
 obtain ⟨w4,hw4⟩ : ∃ x,x = (((w.alloc (.cells #[.int .i64 4,.string s1] 45)).alloc (.cells #[.int .i64 4,.string s2] 45)).alloc (.cells #[.int .i64 0,.string ⟨#[]⟩] 45)).alloc (.cells #[.int .i64 6,.string ⟨#[]⟩] 45) := ⟨_,rfl⟩
 have hb3 := (jbl2 w (.cells #[.int .i64 4,.string s1] 45) (.cells #[.int .i64 4,.string s2] 45))
 have HB : Hid (Below w.heap.size w w4) := hid (by rw [hw4]; exact hb3.trans ((jbl2 _ _ _).mono hb3.size))
 have HA : Hid (w4.heap[w.heap.size]? = some (.cells #[.int .i64 4,.string s1] 45 (0,0))) := hid (by rw [hw4,(jbl2 _ _ _).block _ (by simp; omega),(below_alR _ _).block _ (by simp)]; exact heap_alloc_new _ _)
 have HC : Hid (w4.heap[w.heap.size + 1]? = some (.cells #[.int .i64 4,.string s2] 45 (0,0))) := hid (by rw [hw4,(jbl2 _ _ _).block _ (by simp)]; exact jal2 _ _ _ _)
 have HR : Hid (w4.heap[w.heap.size + 2]? = some (.cells #[.int .i64 0,.string ⟨#[]⟩] 45 (0,0))) := hid (by rw [hw4,(below_alR _ _).block _ (by simp)]; have h := heap_alloc_new ((w.alloc (.cells #[.int .i64 4,.string s1] 45)).alloc (.cells #[.int .i64 4,.string s2] 45)) (.cells #[.int .i64 0,.string ⟨#[]⟩] 45); simp only [World.size_alloc] at h; exact h)
 have HN : Hid (w4.heap[w.heap.size + 3]? = some (.cells #[.int .i64 6,.string ⟨#[]⟩] 45 (0,0))) := hid (by rw [hw4]; have h := heap_alloc_new (((w.alloc (.cells #[.int .i64 4,.string s1] 45)).alloc (.cells #[.int .i64 4,.string s2] 45)).alloc (.cells #[.int .i64 0,.string ⟨#[]⟩] 45)) (.cells #[.int .i64 6,.string ⟨#[]⟩] 45); simp only [World.size_alloc] at h; exact h)
 clear hb3
 go_enter Tryz.func184,Tryz.ntmps184
 go_upto_region 2 with fail
 rw [<- hw4]
 clear hw4
 obtain ⟨g,hg⟩ : ∃ z,w.heap.size = z := ⟨_,rfl⟩
 rw [hg] at HA HC HR HN ⊢
 have HG := hid hg
 have HBT := HB
 clear hg
 have t12 := Go.Proofs.YtfpeakkbbfnhcaaGreat.txt_ne hs
 have t13 : ¬ s1.toList = s2.toList := fun h => by rw [h] at t12; simp at t12
 obtain ⟨al,a0,a1⟩ := c2_at HA.out
 obtain ⟨cl,c0,c1⟩ := c2_at HC.out
 obtain ⟨nl,n0,n1⟩ := c2_at HN.out
 go_wp2_with fail
 clear al a0 a1 cl c0 c1 nl n0 n1
 refine (refs_y 4 4 s1 s2 _).mono ?_
 rw [show decide ((4 : Int) = 4 /\ (4 : Int) = 4) = true by decide]
 rintro e wn ⟨rfl,hbn⟩
 replace HA := hid ((hbn.block _ (Array.getElem?_eq_some_iff.1 HA.out).1).trans HA.out)
 replace HC := hid ((hbn.block _ (Array.getElem?_eq_some_iff.1 HC.out).1).trans HC.out)
 replace HR := hid ((hbn.block _ (Array.getElem?_eq_some_iff.1 HR.out).1).trans HR.out)
 replace HN := hid ((hbn.block _ (Array.getElem?_eq_some_iff.1 HN.out).1).trans HN.out)
 replace HBT := hid (HBT.out.trans (hbn.mono HBT.out.size))
 replace HB := hid (HB.out.trans (hbn.mono HB.out.size))
 clear hbn
 obtain ⟨al,a0,a1⟩ := c2_at HA.out
 obtain ⟨cl,c0,c1⟩ := c2_at HC.out
 obtain ⟨nl,n0,n1⟩ := c2_at HN.out
 clear cl al nl a0 a1 c0 c1 n0 n1 HN
 go_upto_region 9 with fail
 replace HA := hid (show wn.drew.heap[_]? = _ from HA.out)
 replace HC := hid (show wn.drew.heap[_]? = _ from HC.out)
 replace HR := hid (show wn.drew.heap[_]? = _ from HR.out)
 replace HB := hid HB.out.drew
 replace HBT := hid HBT.out.drew
 refine wp_region_held_drew (S := fun W => (g < W.heap.size /\ W.cell? ⟨g,0,none⟩ = some (.int .i64 4) /\ W.cell? ⟨g,1,none⟩ = some (.string s1)) /\ (g + 1 < W.heap.size /\ W.cell? ⟨g + 1,0,none⟩ = some (.int .i64 4) /\ W.cell? ⟨g + 1,1,none⟩ = some (.string s2))) (by kernel_rfl) (by first | exact ⟨c2_at HA.out,c2_at HC.out⟩ | exact ⟨c2_kpt (c2_at HA.out) (set2_kpt _ _ _ _ _ _) (by omega),c2_kpt (c2_at HC.out) (set2_kpt _ _ _ _ _ _) (by omega)⟩) (fun hh => ?_)
 refine tkA 0 _ hh ?_
 try go_frame
 refine tkA 2 _ hh ?_
 try go_frame
 refine tkB 3 _ hh ?_
 try go_frame
 refine tkA 4 _ hh ?_
 try go_frame
 refine tkB 5 _ hh ?_
 try go_frame
 refine rdH [1] ?_
 refine AllReadyH.cons (o := _) (by simp only [List.getElem?_toArray,List.getElem?_cons_succ,List.getElem?_cons_zero]; rfl) (fun KX hKX => ?_) AllReadyH.nil
 clear hh
 go_simp
 refine (orEmpty_y ok vt K _ (HT.out.below HBT.out)).mono ?_
 rintro e wn ⟨tb,mb,vs,ok',rfl,ht,hbn⟩
 replace HA := hid ((hbn.block _ (Array.getElem?_eq_some_iff.1 HA.out).1).trans HA.out)
 replace HC := hid ((hbn.block _ (Array.getElem?_eq_some_iff.1 HC.out).1).trans HC.out)
 replace HR := hid ((hbn.block _ (Array.getElem?_eq_some_iff.1 HR.out).1).trans HR.out)
 replace HB := hid (HB.out.trans (hbn.mono HB.out.size))
 have HT2 := hid ht
 clear hbn ht
 refine hKX.out _ _ (by first | exact ⟨c2_at HA.out,c2_at HC.out⟩ | exact ⟨c2_kpt (c2_at HA.out) (set2_kpt _ _ _ _ _ _) (by omega),c2_kpt (c2_at HC.out) (set2_kpt _ _ _ _ _ _) (by omega)⟩) (fun hh => ?_)
 clear hKX KX
 try go_frame
 refine rdH [6] ?_
 refine AllReadyH.cons (o := _) (by simp only [List.getElem?_toArray,List.getElem?_cons_succ,List.getElem?_cons_zero]; rfl) (fun KX hKX => ?_) AllReadyH.nil
 clear hh
 go_simp
 refine (Common_t ok' tb mb vs K s1 s2 _ HT2.out z1.out z2.out).mono ?_
 rw [HV.out]
 rintro e wn ⟨rfl,hbn⟩
 replace HA := hid ((hbn.block _ (Array.getElem?_eq_some_iff.1 HA.out).1).trans HA.out)
 replace HC := hid ((hbn.block _ (Array.getElem?_eq_some_iff.1 HC.out).1).trans HC.out)
 replace HR := hid ((hbn.block _ (Array.getElem?_eq_some_iff.1 HR.out).1).trans HR.out)
 replace HB := hid (HB.out.trans (hbn.mono HB.out.size))
 clear hbn HT2
 refine hKX.out _ _ (by first | exact ⟨c2_at HA.out,c2_at HC.out⟩ | exact ⟨c2_kpt (c2_at HA.out) (set2_kpt _ _ _ _ _ _) (by omega),c2_kpt (c2_at HC.out) (set2_kpt _ _ _ _ _ _) (by omega)⟩) (fun hh => ?_)
 clear hKX KX
 try go_frame
 refine tkA 7 _ hh ?_
 try go_frame
 refine rdH [8] ?_
 refine AllReadyH.cons (o := _) (by simp only [List.getElem?_toArray,List.getElem?_cons_succ,List.getElem?_cons_zero]; rfl) (fun KX hKX => ?_) AllReadyH.nil
 clear hh
 obtain ⟨rl,rc,rf⟩ := boxN HR.out
 have r0 := rc 0 _ rfl
 have r1 := rc 1 _ rfl
 have u0 := rf 0
 have u1 := rf 1
 simp only [Nat.zero_add] at r0 r1
 clear rc rf
 go_simp
 refine hKX.out _ _ (by first | exact ⟨c2_at HA.out,c2_at HC.out⟩ | exact ⟨c2_kpt (c2_at HA.out) (set2_kpt _ _ _ _ _ _) (by omega),c2_kpt (c2_at HC.out) (set2_kpt _ _ _ _ _ _) (by omega)⟩) (fun hh => ?_)
 clear hKX KX
 try go_frame
 refine wpAnyH_done (by kernel_rfl) ?_ _
 go_wp2_with fail
 refine bodyPost_ret (v := tyv (4,V)) (by simp [*,results,Tryz.results184,go_sem,tyv]) rfl ?_
 exact ⟨rfl,HB.out.trans (set2_bl (by have := HG.out; omega) HB.out.size)⟩
end Go.Proofs.YtfpeakkbbfnhcaaGreat.R
namespace Go.Proofs.YtfpeakkbbfnhcaaGreat.R
open Go.RowKit Go.Proofs.YtfpeakkbbfnhcaaGreat.D Go.Proofs.YtfpeakkbbfnhcaaGreat.O Go.Proofs.YtfpeakkbbfnhcaaGreat.A
theorem fits_a7 (vt : Value) (s1 : ByteArray) (w : World)  :
  Calls Tryz.prog 193 #[vt,.agg #[.int .i64 7,.string s1],.agg #[.int .i64 7,.string s1]] w fun e w' => e = .returned (.bool (false)) /\ Below w.heap.size w w' := by
 obtain ⟨wn,hw4⟩ : ∃ x,x = ((w.alloc (.cells #[.int .i64 7,.string s1] 45)).alloc (.cells #[.int .i64 7,.string s1] 45)) := ⟨_,rfl⟩
 have HB : Hid (Below w.heap.size w wn) := hid (by rw [hw4]; exact (jbl2 _ _ _))
 have HA : Hid (wn.heap[w.heap.size]? = some (.cells #[.int .i64 7,.string s1] 45 (0,0))) := hid (by rw [hw4,(below_alR _ _).block _ (by simp)]; exact heap_alloc_new _ _)
 have HC : Hid (wn.heap[w.heap.size + 1]? = some (.cells #[.int .i64 7,.string s1] 45 (0,0))) := hid (by rw [hw4]; exact jal2 _ _ _ _)
 go_enter Tryz.func193,Tryz.ntmps193
 go_upto_region 1 with fail
 rw [<- hw4]
 clear hw4
 obtain ⟨g,hg⟩ : ∃ z,w.heap.size = z := ⟨_,rfl⟩
 rw [hg] at HA HC ⊢
 have HG := hid hg
 have HBT := HB
 clear hg
 obtain ⟨al,a0,a1⟩ := c2_at HA.out
 obtain ⟨cl,c0,c1⟩ := c2_at HC.out
 go_wp2_with fail
 go_ret
 exact ⟨rfl,HB.out⟩
theorem fits_a (vt : Value) (k1 : Int) (s1 : ByteArray) (w : World) (h7 : ¬ k1 = 7) :
  Calls Tryz.prog 193 #[vt,.agg #[.int .i64 k1,.string s1],.agg #[.int .i64 k1,.string s1]] w fun e w' => e = .returned (.bool (true)) /\ Below w.heap.size w w' := by
 obtain ⟨wn,hw4⟩ : ∃ x,x = ((w.alloc (.cells #[.int .i64 k1,.string s1] 45)).alloc (.cells #[.int .i64 k1,.string s1] 45)) := ⟨_,rfl⟩
 have HB : Hid (Below w.heap.size w wn) := hid (by rw [hw4]; exact (jbl2 _ _ _))
 have HA : Hid (wn.heap[w.heap.size]? = some (.cells #[.int .i64 k1,.string s1] 45 (0,0))) := hid (by rw [hw4,(below_alR _ _).block _ (by simp)]; exact heap_alloc_new _ _)
 have HC : Hid (wn.heap[w.heap.size + 1]? = some (.cells #[.int .i64 k1,.string s1] 45 (0,0))) := hid (by rw [hw4]; exact jal2 _ _ _ _)
 go_enter Tryz.func193,Tryz.ntmps193
 go_upto_region 1 with fail
 rw [<- hw4]
 clear hw4
 obtain ⟨g,hg⟩ : ∃ z,w.heap.size = z := ⟨_,rfl⟩
 rw [hg] at HA HC ⊢
 have HG := hid hg
 have HBT := HB
 clear hg
 have e7 : (k1 != 7) = true := by simpa using h7
 obtain ⟨al,a0,a1⟩ := c2_at HA.out
 obtain ⟨cl,c0,c1⟩ := c2_at HC.out
 go_wp2_with fail
 go_ret
 exact ⟨rfl,HB.out⟩
theorem fits_n1 (vt : Value) (k2 : Int) (s1 s2 : ByteArray) (w : World) (h2 : ¬ k2 = 6) :
  Calls Tryz.prog 193 #[vt,.agg #[.int .i64 6,.string s1],.agg #[.int .i64 k2,.string s2]] w fun e w' => e = .returned (.bool (nulB k2)) /\ Below w.heap.size w w' := by
 obtain ⟨wn,hw4⟩ : ∃ x,x = ((w.alloc (.cells #[.int .i64 6,.string s1] 45)).alloc (.cells #[.int .i64 k2,.string s2] 45)) := ⟨_,rfl⟩
 have HB : Hid (Below w.heap.size w wn) := hid (by rw [hw4]; exact (jbl2 _ _ _))
 have HA : Hid (wn.heap[w.heap.size]? = some (.cells #[.int .i64 6,.string s1] 45 (0,0))) := hid (by rw [hw4,(below_alR _ _).block _ (by simp)]; exact heap_alloc_new _ _)
 have HC : Hid (wn.heap[w.heap.size + 1]? = some (.cells #[.int .i64 k2,.string s2] 45 (0,0))) := hid (by rw [hw4]; exact jal2 _ _ _ _)
 go_enter Tryz.func193,Tryz.ntmps193
 go_upto_region 1 with fail
 rw [<- hw4]
 clear hw4
 obtain ⟨g,hg⟩ : ∃ z,w.heap.size = z := ⟨_,rfl⟩
 rw [hg] at HA HC ⊢
 have HG := hid hg
 have HBT := HB
 clear hg
 have e26 : ¬ 6 = k2 := fun h => h2 h.symm
 have e2 : (k2 == 6) = false := by simpa using h2
 obtain ⟨al,a0,a1⟩ := c2_at HA.out
 obtain ⟨cl,c0,c1⟩ := c2_at HC.out
 go_wp2_with fail
 clear al a0 a1 cl c0 c1
 refine (nullable_y k2 s2 _).mono ?_
 rintro e wn ⟨rfl,hbn⟩
 replace HA := hid ((hbn.block _ (Array.getElem?_eq_some_iff.1 HA.out).1).trans HA.out)
 replace HC := hid ((hbn.block _ (Array.getElem?_eq_some_iff.1 HC.out).1).trans HC.out)
 replace HBT := hid (HBT.out.trans (hbn.mono HBT.out.size))
 replace HB := hid (HB.out.trans (hbn.mono HB.out.size))
 clear hbn
 obtain ⟨al,a0,a1⟩ := c2_at HA.out
 obtain ⟨cl,c0,c1⟩ := c2_at HC.out
 go_wp2_with fail
 go_ret
 exact ⟨rfl,HB.out⟩
theorem fits_n2 (vt : Value) (s1 s2 : ByteArray) (w : World) (hs : ¬ s1 = s2) :
  Calls Tryz.prog 193 #[vt,.agg #[.int .i64 6,.string s1],.agg #[.int .i64 6,.string s2]] w fun e w' => e = .returned (.bool (false)) /\ Below w.heap.size w w' := by
 obtain ⟨wn,hw4⟩ : ∃ x,x = ((w.alloc (.cells #[.int .i64 6,.string s1] 45)).alloc (.cells #[.int .i64 6,.string s2] 45)) := ⟨_,rfl⟩
 have HB : Hid (Below w.heap.size w wn) := hid (by rw [hw4]; exact (jbl2 _ _ _))
 have HA : Hid (wn.heap[w.heap.size]? = some (.cells #[.int .i64 6,.string s1] 45 (0,0))) := hid (by rw [hw4,(below_alR _ _).block _ (by simp)]; exact heap_alloc_new _ _)
 have HC : Hid (wn.heap[w.heap.size + 1]? = some (.cells #[.int .i64 6,.string s2] 45 (0,0))) := hid (by rw [hw4]; exact jal2 _ _ _ _)
 go_enter Tryz.func193,Tryz.ntmps193
 go_upto_region 1 with fail
 rw [<- hw4]
 clear hw4
 obtain ⟨g,hg⟩ : ∃ z,w.heap.size = z := ⟨_,rfl⟩
 rw [hg] at HA HC ⊢
 have HG := hid hg
 have HBT := HB
 clear hg
 have t12 := Go.Proofs.YtfpeakkbbfnhcaaGreat.txt_ne hs
 have t13 : ¬ s1.toList = s2.toList := fun h => by rw [h] at t12; simp at t12
 obtain ⟨al,a0,a1⟩ := c2_at HA.out
 obtain ⟨cl,c0,c1⟩ := c2_at HC.out
 go_wp2_with fail
 clear al a0 a1 cl c0 c1
 refine (nullable_y 6 s2 _).mono ?_
 rw [show nulB 6 = false by decide]
 rintro e wn ⟨rfl,hbn⟩
 replace HA := hid ((hbn.block _ (Array.getElem?_eq_some_iff.1 HA.out).1).trans HA.out)
 replace HC := hid ((hbn.block _ (Array.getElem?_eq_some_iff.1 HC.out).1).trans HC.out)
 replace HBT := hid (HBT.out.trans (hbn.mono HBT.out.size))
 replace HB := hid (HB.out.trans (hbn.mono HB.out.size))
 clear hbn
 obtain ⟨al,a0,a1⟩ := c2_at HA.out
 obtain ⟨cl,c0,c1⟩ := c2_at HC.out
 go_wp2_with fail
 go_ret
 exact ⟨rfl,HB.out⟩
theorem fits_t1 (vt : Value) (k1 k2 : Int) (s1 s2 : ByteArray) (w : World) (h12 : ¬ k1 = k2) (h1 : ¬ k1 = 6) :
  Calls Tryz.prog 193 #[vt,.agg #[.int .i64 k1,.string s1],.agg #[.int .i64 k2,.string s2]] w fun e w' => e = .returned (.bool (false)) /\ Below w.heap.size w w' := by
 obtain ⟨wn,hw4⟩ : ∃ x,x = ((w.alloc (.cells #[.int .i64 k1,.string s1] 45)).alloc (.cells #[.int .i64 k2,.string s2] 45)) := ⟨_,rfl⟩
 have HB : Hid (Below w.heap.size w wn) := hid (by rw [hw4]; exact (jbl2 _ _ _))
 have HA : Hid (wn.heap[w.heap.size]? = some (.cells #[.int .i64 k1,.string s1] 45 (0,0))) := hid (by rw [hw4,(below_alR _ _).block _ (by simp)]; exact heap_alloc_new _ _)
 have HC : Hid (wn.heap[w.heap.size + 1]? = some (.cells #[.int .i64 k2,.string s2] 45 (0,0))) := hid (by rw [hw4]; exact jal2 _ _ _ _)
 go_enter Tryz.func193,Tryz.ntmps193
 go_upto_region 1 with fail
 rw [<- hw4]
 clear hw4
 obtain ⟨g,hg⟩ : ∃ z,w.heap.size = z := ⟨_,rfl⟩
 rw [hg] at HA HC ⊢
 have HG := hid hg
 have HBT := HB
 clear hg
 have e12 : (k1 == k2) = false := by simpa using h12
 have e1 : (k1 == 6) = false := by simpa using h1
 obtain ⟨al,a0,a1⟩ := c2_at HA.out
 obtain ⟨cl,c0,c1⟩ := c2_at HC.out
 go_wp2_with fail
 clear al a0 a1 cl c0 c1
 refine (refs_y k1 k2 s1 s2 _).mono ?_
 rw [show decide (k1 = 4 /\ k2 = 4) = false from decide_eq_false (fun h => h12 (h.1.trans h.2.symm))]
 rintro e wn ⟨rfl,hbn⟩
 replace HA := hid ((hbn.block _ (Array.getElem?_eq_some_iff.1 HA.out).1).trans HA.out)
 replace HC := hid ((hbn.block _ (Array.getElem?_eq_some_iff.1 HC.out).1).trans HC.out)
 replace HBT := hid (HBT.out.trans (hbn.mono HBT.out.size))
 replace HB := hid (HB.out.trans (hbn.mono HB.out.size))
 clear hbn
 obtain ⟨al,a0,a1⟩ := c2_at HA.out
 obtain ⟨cl,c0,c1⟩ := c2_at HC.out
 go_wp2_with fail
 go_ret
 exact ⟨rfl,HB.out⟩
theorem fits_t2 (vt : Value) (k1 : Int) (s1 s2 : ByteArray) (w : World) (hs : ¬ s1 = s2) (h1 : ¬ k1 = 6) (h4 : ¬ k1 = 4) :
  Calls Tryz.prog 193 #[vt,.agg #[.int .i64 k1,.string s1],.agg #[.int .i64 k1,.string s2]] w fun e w' => e = .returned (.bool (false)) /\ Below w.heap.size w w' := by
 obtain ⟨wn,hw4⟩ : ∃ x,x = ((w.alloc (.cells #[.int .i64 k1,.string s1] 45)).alloc (.cells #[.int .i64 k1,.string s2] 45)) := ⟨_,rfl⟩
 have HB : Hid (Below w.heap.size w wn) := hid (by rw [hw4]; exact (jbl2 _ _ _))
 have HA : Hid (wn.heap[w.heap.size]? = some (.cells #[.int .i64 k1,.string s1] 45 (0,0))) := hid (by rw [hw4,(below_alR _ _).block _ (by simp)]; exact heap_alloc_new _ _)
 have HC : Hid (wn.heap[w.heap.size + 1]? = some (.cells #[.int .i64 k1,.string s2] 45 (0,0))) := hid (by rw [hw4]; exact jal2 _ _ _ _)
 go_enter Tryz.func193,Tryz.ntmps193
 go_upto_region 1 with fail
 rw [<- hw4]
 clear hw4
 obtain ⟨g,hg⟩ : ∃ z,w.heap.size = z := ⟨_,rfl⟩
 rw [hg] at HA HC ⊢
 have HG := hid hg
 have HBT := HB
 clear hg
 have t12 := Go.Proofs.YtfpeakkbbfnhcaaGreat.txt_ne hs
 have t13 : ¬ s1.toList = s2.toList := fun h => by rw [h] at t12; simp at t12
 have e1 : (k1 == 6) = false := by simpa using h1
 obtain ⟨al,a0,a1⟩ := c2_at HA.out
 obtain ⟨cl,c0,c1⟩ := c2_at HC.out
 go_wp2_with fail
 clear al a0 a1 cl c0 c1
 refine (refs_y k1 k1 s1 s2 _).mono ?_
 rw [show decide (k1 = 4 /\ k1 = 4) = false by simp [h4]]
 rintro e wn ⟨rfl,hbn⟩
 replace HA := hid ((hbn.block _ (Array.getElem?_eq_some_iff.1 HA.out).1).trans HA.out)
 replace HC := hid ((hbn.block _ (Array.getElem?_eq_some_iff.1 HC.out).1).trans HC.out)
 replace HBT := hid (HBT.out.trans (hbn.mono HBT.out.size))
 replace HB := hid (HB.out.trans (hbn.mono HB.out.size))
 clear hbn
 obtain ⟨al,a0,a1⟩ := c2_at HA.out
 obtain ⟨cl,c0,c1⟩ := c2_at HC.out
 go_wp2_with fail
 go_ret
 exact ⟨rfl,HB.out⟩
theorem fits_r (vt : Value) (s1 s2 : ByteArray) (ok : Nat -> Prop) (K : List Cls) (w : World) (hs : ¬ s1 = s2) (z1 : s1.size <= maxLen) (z2 : s2.size <= maxLen) (V : Bool) (hv : subT (K.map skOf) s1 s2 = V) (h : TrN w ok vt K) :
  Calls Tryz.prog 193 #[vt,.agg #[.int .i64 4,.string s1],.agg #[.int .i64 4,.string s2]] w fun e w' => e = .returned (.bool (V)) /\ Below w.heap.size w w' := by
 have HT := hid h
 have HV := hid hv
 replace z1 := hid z1
 replace z2 := hid z2
 clear h hv
 obtain ⟨wn,hw4⟩ : ∃ x,x = ((w.alloc (.cells #[.int .i64 4,.string s1] 45)).alloc (.cells #[.int .i64 4,.string s2] 45)) := ⟨_,rfl⟩
 have HB : Hid (Below w.heap.size w wn) := hid (by rw [hw4]; exact (jbl2 _ _ _))
 have HA : Hid (wn.heap[w.heap.size]? = some (.cells #[.int .i64 4,.string s1] 45 (0,0))) := hid (by rw [hw4,(below_alR _ _).block _ (by simp)]; exact heap_alloc_new _ _)
 have HC : Hid (wn.heap[w.heap.size + 1]? = some (.cells #[.int .i64 4,.string s2] 45 (0,0))) := hid (by rw [hw4]; exact jal2 _ _ _ _)
 go_enter Tryz.func193,Tryz.ntmps193
 go_upto_region 1 with fail
 rw [<- hw4]
 clear hw4
 obtain ⟨g,hg⟩ : ∃ z,w.heap.size = z := ⟨_,rfl⟩
 rw [hg] at HA HC ⊢
 have HG := hid hg
 have HBT := HB
 clear hg
 have t12 := Go.Proofs.YtfpeakkbbfnhcaaGreat.txt_ne hs
 have t13 : ¬ s1.toList = s2.toList := fun h => by rw [h] at t12; simp at t12
 obtain ⟨al,a0,a1⟩ := c2_at HA.out
 obtain ⟨cl,c0,c1⟩ := c2_at HC.out
 go_wp2_with fail
 clear al a0 a1 cl c0 c1
 refine (refs_y 4 4 s1 s2 _).mono ?_
 rw [show decide ((4 : Int) = 4 /\ (4 : Int) = 4) = true by decide]
 rintro e wn ⟨rfl,hbn⟩
 replace HA := hid ((hbn.block _ (Array.getElem?_eq_some_iff.1 HA.out).1).trans HA.out)
 replace HC := hid ((hbn.block _ (Array.getElem?_eq_some_iff.1 HC.out).1).trans HC.out)
 replace HBT := hid (HBT.out.trans (hbn.mono HBT.out.size))
 replace HB := hid (HB.out.trans (hbn.mono HB.out.size))
 clear hbn
 obtain ⟨al,a0,a1⟩ := c2_at HA.out
 obtain ⟨cl,c0,c1⟩ := c2_at HC.out
 clear cl al a0 a1 c0 c1
 go_upto_region 6 with fail
 replace HA := hid (show wn.drew.heap[_]? = _ from HA.out)
 replace HC := hid (show wn.drew.heap[_]? = _ from HC.out)
 replace HB := hid HB.out.drew
 replace HBT := hid HBT.out.drew
 refine wp_region_held_drew (S := fun W => (g < W.heap.size /\ W.cell? ⟨g,0,none⟩ = some (.int .i64 4) /\ W.cell? ⟨g,1,none⟩ = some (.string s1)) /\ (g + 1 < W.heap.size /\ W.cell? ⟨g + 1,0,none⟩ = some (.int .i64 4) /\ W.cell? ⟨g + 1,1,none⟩ = some (.string s2))) (by kernel_rfl) ⟨c2_at HA.out,c2_at HC.out⟩ (fun hh => ?_)
 refine tkA 0 _ hh ?_
 try go_frame
 refine tkA 2 _ hh ?_
 try go_frame
 refine tkB 3 _ hh ?_
 try go_frame
 refine tkA 4 _ hh ?_
 try go_frame
 refine tkB 5 _ hh ?_
 try go_frame
 refine rdH [1] ?_
 refine AllReadyH.cons (o := _) (by simp only [List.getElem?_toArray,List.getElem?_cons_succ,List.getElem?_cons_zero]; rfl) (fun KX hKX => ?_) AllReadyH.nil
 clear hh
 go_simp
 refine (orEmpty_y ok vt K _ (HT.out.below HBT.out)).mono ?_
 rintro e wn ⟨tb,mb,vs,ok',rfl,ht,hbn⟩
 replace HA := hid ((hbn.block _ (Array.getElem?_eq_some_iff.1 HA.out).1).trans HA.out)
 replace HC := hid ((hbn.block _ (Array.getElem?_eq_some_iff.1 HC.out).1).trans HC.out)
 replace HB := hid (HB.out.trans (hbn.mono HB.out.size))
 have HT2 := hid ht
 clear hbn ht
 refine hKX.out _ _ ⟨c2_at HA.out,c2_at HC.out⟩ (fun hh => ?_)
 clear hKX KX
 try go_frame
 refine rdH [6] ?_
 refine AllReadyH.cons (o := _) (by simp only [List.getElem?_toArray,List.getElem?_cons_succ,List.getElem?_cons_zero]; rfl) (fun KX hKX => ?_) AllReadyH.nil
 clear hh
 go_simp
 refine (Sub_t ok' tb mb vs K s1 s2 _ HT2.out z1.out z2.out).mono ?_
 rw [HV.out]
 rintro e wn ⟨rfl,hbn⟩
 replace HA := hid ((hbn.block _ (Array.getElem?_eq_some_iff.1 HA.out).1).trans HA.out)
 replace HC := hid ((hbn.block _ (Array.getElem?_eq_some_iff.1 HC.out).1).trans HC.out)
 replace HB := hid (HB.out.trans (hbn.mono HB.out.size))
 clear hbn HT2
 refine hKX.out _ _ ⟨c2_at HA.out,c2_at HC.out⟩ (fun hh => ?_)
 clear hKX KX
 try go_frame
 refine tkA 7 _ hh ?_
 try go_frame
 refine wpAnyH_done (by kernel_rfl) ?_ _
 go_wp2_with fail
 go_ret
 exact ⟨rfl,HB.out⟩
theorem nulB_yes {k : Int} (h : nulB k = true) : k = 3 ∨ k = 4 := by unfold nulB at h; simpa using h
theorem nulB_no {k : Int} (h : nulB k = false) : ¬ (k = 3 ∨ k = 4) := by unfold nulB at h; simp at h; omega
theorem ty_ne {k1 k2 : Int} {s1 s2 : ByteArray} (h : ¬ (k2 = k1 /\ s2 = s1)) : ((k1,s1) : Ty) ≠ (k2,s2) := fun e => h ⟨(congrArg Prod.fst e).symm,(congrArg Prod.snd e).symm⟩
theorem nul_ne {k : Int} {s : ByteArray} (h : ¬ (k = 6 /\ s = ⟨#[]⟩)) : ((k,s) : Ty) ≠ nulT := fun e => h ⟨congrArg Prod.fst e,congrArg Prod.snd e⟩
theorem Join_n (ok : Nat -> Prop) (vt : Value) (K : List Cls) (a b : Ty) (w : World) (h : TrN w ok vt K) (ha : a.2.size <= maxLen) (hb : b.2.size <= maxLen) :
  Calls Tryz.prog 184 #[vt,tyv a,tyv b] w fun e w' => e = .returned (tyv (joinT (K.map skOf) a b)) /\ Below w.heap.size w w' := by
 obtain ⟨k1,s1⟩ := a
 obtain ⟨k2,s2⟩ := b
 show Calls _ _ #[vt,.agg #[.int .i64 k1,.string s1],.agg #[.int .i64 k2,.string s2]] w _
 by_cases hab : k2 = k1 /\ s2 = s1
 ·obtain ⟨rfl,rfl⟩ := hab
  rw [show joinT (K.map skOf) (k2,s2) (k2,s2) = (k2,s2) from if_pos rfl]
  exact join_a vt k2 s2 w
 ·have hne := ty_ne hab
  by_cases hn : k1 = 6 /\ s1 = ⟨#[]⟩
  ·obtain ⟨rfl,rfl⟩ := hn
   by_cases h2 : k2 = 6
   ·subst h2
    have hs2 : ¬ s2 = ⟨#[]⟩ := fun e => hab ⟨rfl,e⟩
    rw [show joinT (K.map skOf) (6,⟨#[]⟩) (6,s2) = topT from by
     unfold joinT
     rw [if_neg hne,if_neg (fun k => by have := k.2; simp at this),if_neg (fun k => by have := k.2; simp at this),if_neg (fun k => by have := k.1; simp at this)]]
    exact join_n3 vt s2 w hs2
   ·cases nb : nulB k2 with
    | true =>
     rw [show joinT (K.map skOf) (6,⟨#[]⟩) (k2,s2) = (k2,s2) from by
      unfold joinT
      rw [if_neg hne,if_pos ⟨rfl,nulB_yes nb⟩]]
     exact join_n1 vt k2 s2 w h2 nb
    | false =>
     rw [show joinT (K.map skOf) (6,⟨#[]⟩) (k2,s2) = topT from by
      unfold joinT
      rw [if_neg hne,if_neg (fun k => nulB_no nb k.2),if_neg (fun k => by have := k.2; simp at this),if_neg (fun k => by have := k.1; simp at this)]]
     exact join_n2 vt k2 s2 w h2 nb
  ·have hna := nul_ne hn
   by_cases hm : k2 = 6 /\ s2 = ⟨#[]⟩
   ·obtain ⟨rfl,rfl⟩ := hm
    by_cases h1 : k1 = 6
    ·subst h1
     have hs1 : ¬ s1 = ⟨#[]⟩ := fun e => hn ⟨rfl,e⟩
     rw [show joinT (K.map skOf) (6,s1) (6,⟨#[]⟩) = topT from by
      unfold joinT
      rw [if_neg hne,if_neg (fun k => hna k.1),if_neg (fun k => by have := k.2; simp at this),if_neg (fun k => by have := k.1; simp at this)]]
     exact join_m3 vt s1 w hs1
    ·cases nb : nulB k1 with
     | true =>
      rw [show joinT (K.map skOf) (k1,s1) (6,⟨#[]⟩) = (k1,s1) from by
       unfold joinT
       rw [if_neg hne,if_neg (fun k => hna k.1),if_pos ⟨rfl,nulB_yes nb⟩]]
      exact join_m1 vt k1 s1 w h1 nb
     | false =>
      rw [show joinT (K.map skOf) (k1,s1) (6,⟨#[]⟩) = topT from by
       unfold joinT
       rw [if_neg hne,if_neg (fun k => hna k.1),if_neg (fun k => nulB_no nb k.2),if_neg (fun k => by have := k.2; simp at this)]]
      exact join_m2 vt k1 s1 w h1 nb
   ·have hnb := nul_ne hm
    by_cases h4 : k1 = 4 /\ k2 = 4
    ·obtain ⟨rfl,rfl⟩ := h4
     rw [show joinT (K.map skOf) (4,s1) (4,s2) = (4,commonT (K.map skOf) s1 s2) from by
      unfold joinT
      rw [if_neg hne,if_neg (fun k => hna k.1),if_neg (fun k => hnb k.1),if_pos ⟨rfl,rfl⟩]]
     exact join_r vt s1 s2 ok K w (fun e => hab ⟨rfl,e.symm⟩) ha hb _ rfl h
    ·rw [show joinT (K.map skOf) (k1,s1) (k2,s2) = topT from by
      unfold joinT
      rw [if_neg hne,if_neg (fun k => hna k.1),if_neg (fun k => hnb k.1),if_neg h4]]
     by_cases h12 : k2 = k1
     ·subst h12
      have hs : ¬ s1 = s2 := fun e => hab ⟨rfl,e.symm⟩
      by_cases h6 : k2 = 6
      ·subst h6
       exact join_t5 vt s1 s2 w hs (fun e => hn ⟨rfl,e⟩) (fun e => hm ⟨rfl,e⟩)
      ·exact join_t4 vt k2 s1 s2 w hs h6 (fun e => h4 ⟨e,e⟩)
     ·by_cases h1 : k1 = 6
      ·subst h1
       exact join_t2 vt k2 s1 s2 w (fun e => hn ⟨rfl,e⟩) h12
      ·by_cases h2 : k2 = 6
       ·subst h2
        exact join_t3 vt k1 s1 s2 w h1 (fun e => hm ⟨rfl,e⟩)
       ·exact join_t1 vt k1 k2 s1 s2 w (fun e => h12 e.symm) h1 h2 (decide_eq_false h4)
theorem Fits_n (ok : Nat -> Prop) (vt : Value) (K : List Cls) (a b : Ty) (w : World) (h : TrN w ok vt K) (ha : a.2.size <= maxLen) (hb : b.2.size <= maxLen) :
  Calls Tryz.prog 193 #[vt,tyv a,tyv b] w fun e w' => e = .returned (.bool (fitsT (K.map skOf) a b)) /\ Below w.heap.size w w' := by
 obtain ⟨k1,s1⟩ := a
 obtain ⟨k2,s2⟩ := b
 show Calls _ _ #[vt,.agg #[.int .i64 k1,.string s1],.agg #[.int .i64 k2,.string s2]] w _
 by_cases hab : k2 = k1 /\ s2 = s1
 ·obtain ⟨rfl,rfl⟩ := hab
  by_cases h7 : k2 = 7
  ·subst h7
   rw [show fitsT (K.map skOf) (7,s2) (7,s2) = false from by
    unfold fitsT
    rw [if_neg (fun k => by have := k.1; simp at this),if_neg (fun k => by have := k.1; simp at this)]
    simp]
   exact fits_a7 vt s2 w
  ·rw [show fitsT (K.map skOf) (k2,s2) (k2,s2) = true from by
    unfold fitsT
    by_cases h4 : k2 = 4
    ·rw [if_pos ⟨h4,h4⟩]; simp
    ·rw [if_neg (fun k => h4 k.1),if_neg (fun k => by have h1 := k.1; have h2 := k.2; dsimp only at h1 h2; omega)]
     simp [h7]]
   exact fits_a vt k2 s2 w h7
 ·have hne := ty_ne hab
  by_cases h1 : k1 = 6
  ·subst h1
   by_cases h2 : k2 = 6
   ·subst h2
    rw [show fitsT (K.map skOf) (6,s1) (6,s2) = false from by
     unfold fitsT
     rw [if_neg (fun k => by have := k.1; simp at this),if_neg (fun k => by have := k.2; simp at this),decide_eq_false hne]
     rfl]
    exact fits_n2 vt s1 s2 w (fun e => hab ⟨rfl,e.symm⟩)
   ·rw [show fitsT (K.map skOf) (6,s1) (k2,s2) = nulB k2 from by
     unfold fitsT
     rw [if_neg (fun k => by have := k.1; simp at this)]
     cases nb : nulB k2 with
     | true => rw [if_pos ⟨rfl,nulB_yes nb⟩]
     | false => rw [if_neg (fun k => nulB_no nb k.2),decide_eq_false hne]; rfl]
    exact fits_n1 vt k2 s1 s2 w h2
  ·by_cases h4 : k1 = 4 /\ k2 = 4
   ·obtain ⟨rfl,rfl⟩ := h4
    rw [show fitsT (K.map skOf) (4,s1) (4,s2) = subT (K.map skOf) s1 s2 from by
     unfold fitsT
     rw [if_pos ⟨rfl,rfl⟩,decide_eq_false hne]
     rfl]
    exact fits_r vt s1 s2 ok K w (fun e => hab ⟨rfl,e.symm⟩) ha hb _ rfl h
   ·rw [show fitsT (K.map skOf) (k1,s1) (k2,s2) = false from by
     unfold fitsT
     rw [if_neg h4,if_neg (fun k => h1 k.1),decide_eq_false hne]
     rfl]
    by_cases h12 : k2 = k1
    ·subst h12
     exact fits_t2 vt k2 s1 s2 w (fun e => hab ⟨rfl,e.symm⟩) h1 (fun e => h4 ⟨e,e⟩)
    ·exact fits_t1 vt k1 k2 s1 s2 w (fun e => h12 e.symm) h1
end Go.Proofs.YtfpeakkbbfnhcaaGreat.R
