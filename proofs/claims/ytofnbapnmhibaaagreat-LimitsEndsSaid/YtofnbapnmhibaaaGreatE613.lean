/- Texts that the proof is made of, joined. No condition. -/
import Derived.Test.YtofnbapnmhibaaaGreatE68
import Derived.Test.YtofnbapnmhibaaaGreatE611
import Derived.Test.YtofnbapnmhibaaaGreatE612
import Derived.Deep.DeepCutAuto
import Derived.Test.YtofnbapnmhibaaaGreatE6H
set_option linter.unusedVariables false
set_option linter.unusedSimpArgs false
set_option maxRecDepth 100000
set_option maxHeartbeats 16000000
namespace Go.Proofs.YtofnbapnmhibaaaGreat.A
open Go.RowKit Go.Proofs.YtofnbapnmhibaaaGreat.D Go.Proofs.YtofnbapnmhibaaaGreat.O
theorem formed_len {a : Arch} (h : formedB a = true) : a.length <= 400 /\ ∀ c ∈ a,c.methods.length <= 100 /\ ∀ m ∈ c.methods,m.params.length <= 8 /\ m.code.length <= 2000 /\ m.hs.length <= 50 := by
 obtain ⟨h1,h2⟩ := allB_iff.1 h
 refine ⟨h1,fun c hc => ?_⟩
 have h3 := h2 c hc
 unfold clsB at h3
 simp only [Bool.and_eq_true] at h3
 obtain ⟨h4,h5⟩ := allB_iff.1 h3.2
 refine ⟨h4,fun m hm => ?_⟩
 have h6 := h5 m hm
 unfold mthB at h6
 simp only [Bool.and_eq_true] at h6
 exact ⟨(allB_iff.1 h6.1.1.1.1.2).1,(allB_iff.1 h6.1.2).1,(allB_iff.1 h6.2).1⟩
theorem check_bad (a : Arch) (ok : Nat -> Prop) (p : Option Addr) (n cap : Nat) (w : World) (hz : szA a) (hwf : wfA a) (hsm : formedB a = true -> small a) (hg : Glob w) (hr : RdA ok w (.slice p n cap) a) (hR : rightA a = false) :
  Calls Tryz.prog 10 #[.agg #[.slice p n cap]] w fun e w' => e = .returned (.tuple #[.agg #[.int .i64 (-1),.int .i64 (-1),.int .i64 (-1)],.int .i64 21]) /\ Below w.heap.size w w' := by
 have hbW : Below w.heap.size w ((w.alloc (.cells #[.slice p n cap] 50)).alloc (.cells #[.int .i64 0,.int .i64 0,.int .i64 0] 45)) := ((Below.refl _ _).alloc (Nat.le_refl _) _).alloc (by simp) _
 have HR := hid (hr.any cP.grow hbW)
 have HG := hid (hg.below hbW (Nat.le_refl _))
 clear hr hg
 go_enter Tryz.func10,Tryz.ntmps10
 go_upto_region 1 with fail
 obtain ⟨W,hW⟩ : ∃ x,x = (w.alloc (.cells #[.slice p n cap] 50)).alloc (.cells #[.int .i64 0,.int .i64 0,.int .i64 0] 45) := ⟨_,rfl⟩
 rw [<- hW] at hbW HR HG
 rw [<- hW]
 have hxA : W.heap[w.heap.size]? = some (.cells #[.slice p n cap] 50 (0,0)) := by rw [hW,(below_alM _ _).block _ (by simp)]; exact heap_alloc_new _ _
 have hxP : W.heap[w.heap.size + 1]? = some (.cells #[.int .i64 0,.int .i64 0,.int .i64 0] 45 (0,0)) := by rw [hW]; have := heap_alloc_new (w.alloc (.cells #[.slice p n cap] 50)) (.cells #[.int .i64 0,.int .i64 0,.int .i64 0] 45); rwa [World.size_alloc] at this
 have hsz : W.heap.size = w.heap.size + 2 := by rw [hW]; simp
 clear hW
 obtain ⟨al,ac,af⟩ := boxN hxA
 have a0 := ac 0 _ rfl
 have az0 := af 0
 simp only [Nat.zero_add] at a0
 clear ac af
 go_wp2_with fail
 refine (right_a a ok p n cap W hz hwf hsm HG.out HR.out).mono ?_
 rintro e w1 ⟨rfl,hb1⟩
 rw [hR]
 have hxP1 := hid ((hb1.block _ (by omega)).trans hxP)
 have hxA1 := hid ((hb1.block _ (by omega)).trans hxA)
 have hs1 := hb1.size
 have HB1 := hid (hbW.trans (hb1.mono hbW.size))
 clear hxA hxP a0 az0 al hb1 hbW hR
 obtain ⟨pl,hpl⟩ : ∃ x,w.heap.size + 1 = x := ⟨_,rfl⟩
 have hpl2 : pl < w1.heap.size := by omega
 rw [hpl] at hxP1
 clear hxA1
 obtain ⟨yl,yc,yf⟩ := boxN hxP1.out; have y0 := yc 0 _ rfl; have y1 := yc 1 _ rfl; have y2 := yc 2 _ rfl; have yz0 := yf 0; have yz1 := yf 1; have yz2 := yf 2; simp only [Nat.zero_add] at y0 y1 y2; clear yc yf
 go_wp2_with fail
 refine bodyPost_ret (v := .tuple #[.agg #[.int .i64 (-1),.int .i64 (-1),.int .i64 (-1)],.int .i64 21]) (by simp [*,results,Tryz.results10,go_sem]) rfl ⟨rfl,?_⟩
 repeat (first | exact HB1.out | refine Below.setCell (p := ⟨_,_,_⟩) ?_ (by first | (simp; done) | (simp; omega) | omega) _ | refine below_drewN ?_ _ | refine Below.drew ?_)
theorem check_ok (a : Arch) (ok : Nat -> Prop) (p : Option Addr) (n cap : Nat) (w : World) (hz : szA a) (hwf : wfA a) (hsm : formedB a = true -> small a) (hg : Glob w) (hr : RdA ok w (.slice p n cap) a) (ha : ¬ a = []) (hR : rightA a = true) (hM : ∀ c ∈ a,∀ m ∈ c.methods,mthA m = (0,0)) :
  Calls Tryz.prog 10 #[.agg #[.slice p n cap]] w fun e w' => e = .returned (.tuple #[.agg #[.int .i64 0,.int .i64 0,.int .i64 0],.int .i64 0]) /\ Below w.heap.size w w' := by
 have hF : formedB a = true := by
  have := hR
  unfold rightA at this
  simp only [Bool.and_eq_true] at this
  exact this.1
 obtain ⟨hla,hlc⟩ := formed_len hF
 have HLC := hid hlc
 have HM := hid hM
 obtain ⟨b,off,rfl,hna,-,hok,hlt,hc⟩ := hr.place ha
 have HC := hid hc
 have HNA := hid hna
 have hn4 : n <= 400 := by omega
 clear hlc hM hc hF hna hla
 have hbW : Below w.heap.size w ((w.alloc (.cells #[.slice (some ⟨b,off,none⟩) n cap] 50)).alloc (.cells #[.int .i64 0,.int .i64 0,.int .i64 0] 45)) := ((Below.refl _ _).alloc (Nat.le_refl _) _).alloc (by simp) _
 have HR := hid (hr.any cP.grow hbW)
 have HG := hid (hg.below hbW (Nat.le_refl _))
 clear hr hg
 go_enter Tryz.func10,Tryz.ntmps10
 go_upto_region 1 with fail
 obtain ⟨W,hW⟩ : ∃ x,x = (w.alloc (.cells #[.slice (some ⟨b,off,none⟩) n cap] 50)).alloc (.cells #[.int .i64 0,.int .i64 0,.int .i64 0] 45) := ⟨_,rfl⟩
 rw [<- hW] at hbW HR HG
 rw [<- hW]
 have hxA : W.heap[w.heap.size]? = some (.cells #[.slice (some ⟨b,off,none⟩) n cap] 50 (0,0)) := by rw [hW,(below_alM _ _).block _ (by simp)]; exact heap_alloc_new _ _
 have hxP : W.heap[w.heap.size + 1]? = some (.cells #[.int .i64 0,.int .i64 0,.int .i64 0] 45 (0,0)) := by rw [hW]; have := heap_alloc_new (w.alloc (.cells #[.slice (some ⟨b,off,none⟩) n cap] 50)) (.cells #[.int .i64 0,.int .i64 0,.int .i64 0] 45); rwa [World.size_alloc] at this
 have hsz : W.heap.size = w.heap.size + 2 := by rw [hW]; simp
 clear hW
 obtain ⟨al,ac,af⟩ := boxN hxA
 have a0 := ac 0 _ rfl
 have az0 := af 0
 simp only [Nat.zero_add] at a0
 clear ac af
 go_wp2_with fail
 refine (right_a a ok _ n cap W hz hwf hsm HG.out HR.out).mono ?_
 rintro e w1 ⟨rfl,hb1⟩
 rw [hR]
 have hxP1 := hid ((hb1.block _ (by omega)).trans hxP)
 have hxA1 := hid ((hb1.block _ (by omega)).trans hxA)
 have hs1 := hb1.size
 have HB1 := hid (hbW.trans (hb1.mono hbW.size))
 clear hxA hxP a0 az0 al hb1 hbW hR
 obtain ⟨pl,hpl⟩ : ∃ x,w.heap.size + 1 = x := ⟨_,rfl⟩
 have hpl2 : pl < w1.heap.size := by omega
 rw [hpl] at hxP1
 obtain ⟨al,ac,af⟩ := boxN hxA1.out
 have a0 := ac 0 _ rfl
 have az0 := af 0
 simp only [Nat.zero_add] at a0
 clear ac af
 go_wp2_with fail
 clear a0 az0 al hxA1
 go_loopw [17] (fun i wr => ∃ k : Nat,k <= n /\ i = .int .i64 k /\ Hid (Below w1.heap.size w1 wr)) (fun i _ => n - (intOf i).toNat)
 case atStart => exact ⟨0,Nat.zero_le _,rfl,hid (Below.refl _ _)⟩
 case round =>
  obtain ⟨k,hk,rfl,HBR⟩ := hrel
  have hbl := HB1.out.trans (HBR.out.mono HB1.out.size)
  have hsr := hbl.size
  have hsr1 := HBR.out.size
  by_cases hlt2 : k < n
  ·obtain ⟨x,hx⟩ : ∃ x,a[k]? = some x := ⟨_,List.getElem?_eq_getElem (by have := HNA.out; omega)⟩
   have hmem := List.mem_of_getElem? hx
   obtain ⟨vs,hv,hcl⟩ := HC.out k x hx
   obtain ⟨cn,su,is,kd,fs,ms⟩ := x
   obtain ⟨vi,vf,vm,rfl,hd0,hd1,hd2⟩ := hv
   have HMS := hid (HM.out _ hmem)
   obtain ⟨hl1,hl2⟩ := HLC.out _ hmem
   have HL2 := hid hl2
   obtain ⟨pvi,cvi,rfl,-⟩ := hd0.len
   obtain ⟨pvf,cvf,rfl,-⟩ := hd1.len
   obtain ⟨pvm,cvm,rfl,-⟩ := hd2.len
   obtain ⟨hc0,hc1,hc2,hc3,hc4,hc5⟩ := CellsAt.six (hcl.below hbl hlt)
   have HD2 : Hid (RdX 9 mP ok w (.slice pvm ms.length cvm) ms) := hid hd2
   have hl1 : ms.length <= 100 := hl1
   clear hx hcl hd0 hd1 hd2 hl2 hmem
   go_wp2_with fail
   have HBX : Hid (Below w1.heap.size w1 (wr.alloc (.cells #[.string cn,.string su,.slice pvi is.length cvi,.int .i64 kd,.slice pvf fs.length cvf,.slice pvm ms.length cvm] 57))) := hid (HBR.out.alloc hsr1 _)
   by_cases hm0 : ms = []
   ·have hml : ms.length = 0 := by rw [hm0]; rfl
    rw [hml]
    go_loopw [25] (fun i wq => i = .int .i64 0 /\ Hid (Below w1.heap.size w1 wq)) (fun _ _ => 0)
    case atStart => exact ⟨rfl,by rw [hml] at HBX; exact HBX⟩
    case round =>
     obtain ⟨rfl,HBQ⟩ := hrel
     go_wp2_with fail
     go_roundw
     case rel => exact ⟨k + 1,by omega,by go_num,HBQ⟩
     case measure => simp [intOf]; omega
   ·obtain ⟨b2,off2,rfl,-,-,hok2,hlt3,hcm⟩ := HD2.out.place hm0
    have HCM := hid hcm
    clear hcm
    go_loopw [25] (fun i wq => ∃ j : Nat,j <= ms.length /\ i = .int .i64 j /\ Hid (Below w1.heap.size w1 wq)) (fun i _ => ms.length - (intOf i).toNat)
    case atStart => exact ⟨0,Nat.zero_le _,rfl,HBX⟩
    case round =>
     obtain ⟨j,hj,rfl,HBQ⟩ := hrel
     have hblq := HB1.out.trans (HBQ.out.mono HB1.out.size)
     have hsq := hblq.size
     have hsq1 := HBQ.out.size
     by_cases hltj : j < ms.length
     ·obtain ⟨m,hm⟩ : ∃ m,ms[j]? = some m := ⟨_,List.getElem?_eq_getElem hltj⟩
      have hmm := List.mem_of_getElem? hm
      have HMM := hid (HMS.out m hmm)
      obtain ⟨hp1,hp2,hp3⟩ := HL2.out m hmm
      obtain ⟨us,hu,hul⟩ := HCM.out j m hm
      obtain ⟨mn,ps,⟨r0,r1⟩,st,ab,lo,code,hs⟩ := m
      obtain ⟨vp,vc,vh,rfl,he0,he1,he2⟩ := hu
      obtain ⟨pp,cp,rfl,-⟩ := he0.len
      obtain ⟨pc,cc,rfl,-⟩ := he1.len
      obtain ⟨ph,ch,rfl,-⟩ := he2.len
      obtain ⟨hq0,hq1,hq2,hq3,hq4,hq5,hq6,hq7,hq8⟩ := CellsAt.nine (hul.below hblq hlt3)
      have HE1 : Hid (RdX 7 (sP insC) ok w (.slice pc code.length cc) code) := hid he1
      have HE2 : Hid (RdX 4 (sP hndC) ok w (.slice ph hs.length ch) hs) := hid he2
      have hp1 : ps.length <= 8 := hp1
      have hp2 : code.length <= 2000 := hp2
      have hp3 : hs.length <= 50 := hp3
      clear hm hmm hul he0 he1 he2
      go_wp2_with fail
      refine (method_a mn r1 r0 lo st ab pp pc ph _ cp _ cc _ ch ps code hs ok _ rfl (by omega) (HE1.out.any (sP.grow _) (hblq.alloc hsq _)) (HE2.out.any (sP.grow _) (hblq.alloc hsq _)) (by omega) (by omega)).mono ?_
      rw [HMM.out]
      rintro e w2 ⟨rfl,hb2⟩
      have HB2 : Hid (Below w1.heap.size w1 w2) := hid ((HBQ.out.alloc hsq1 _).trans (hb2.mono (by simp; omega)))
      clear hb2 hq0 hq1 hq2 hq3 hq4 hq5 hq6 hq7 hq8
      go_wp2_with fail
      go_roundw
      case rel => exact ⟨j + 1,by omega,by go_num,HB2⟩
      case measure => simp [intOf]; omega
     ·go_wp2_with fail
      go_roundw
      case rel => exact ⟨k + 1,by omega,by go_num,HBQ⟩
      case measure => simp [intOf]; omega
  ·replace hxP1 := hid ((HBR.out.block _ hpl2).trans hxP1.out)
   obtain ⟨yl,yc,yf⟩ := boxN hxP1.out; have y0 := yc 0 _ rfl; have y1 := yc 1 _ rfl; have y2 := yc 2 _ rfl; have yz0 := yf 0; have yz1 := yf 1; have yz2 := yf 2; simp only [Nat.zero_add] at y0 y1 y2; clear yc yf
   go_wp2_with fail
   refine bodyPost_ret (v := .tuple #[.agg #[.int .i64 0,.int .i64 0,.int .i64 0],.int .i64 0]) (by simp [*,results,Tryz.results10,go_sem]) rfl ⟨rfl,?_⟩
   repeat (first | exact hbl | refine Below.setCell (p := ⟨_,_,_⟩) ?_ (by first | (simp; done) | (simp; omega) | omega) _ | refine below_drewN ?_ _ | refine Below.drew ?_)
end Go.Proofs.YtofnbapnmhibaaaGreat.A
