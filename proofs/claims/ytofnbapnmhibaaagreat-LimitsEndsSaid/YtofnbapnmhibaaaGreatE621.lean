/- Texts that the proof is made of, joined. No condition. -/
import Derived.Test.YtofnbapnmhibaaaGreatE620
import Derived.Test.YtofnbapnmhibaaaGreatE6H
set_option linter.unusedVariables false
set_option linter.unusedSimpArgs false
set_option maxRecDepth 100000
set_option maxHeartbeats 16000000
namespace Go.Proofs.YtofnbapnmhibaaaGreat.A
open Go.RowKit Go.Proofs.YtofnbapnmhibaaaGreat.D Go.Proofs.YtofnbapnmhibaaaGreat.O
def iO (o : Int) : Ins := (o,0,0,es,es,es,es)
def iX (o k : Int) : Ins := (o,0,k,es,es,es,es)
def opT (x : UInt8) : Int := if x.toNat % 4 = 0 then 6 else if x.toNat % 4 = 1 then 3 else if x.toNat % 4 = 2 then 40 else 38
def bodyT (l : List UInt8) : List Ins := l.map fun x => iO (opT x)
theorem bodyT_next {l : List UInt8} {i : Nat} {x : UInt8} (h : l[i]? = some x) : bodyT (l.take i) ++ [iO (opT x)] = bodyT (l.take (i + 1)) := by
 unfold bodyT
 rw [List.take_add_one,h,List.map_append]
 rfl
theorem opT_plain (x : UInt8) (L n : Int) : findsB L n (iO (opT x)) = true := by
 have h : opT x = 6 ∨ opT x = 3 ∨ opT x = 40 ∨ opT x = 38 := by unfold opT; (repeat' split) <;> simp
 unfold findsB iO
 rcases h with h | h | h | h <;> rw [h] <;> rfl
theorem end_bad {l : List UInt8} {L o k : Int} (h : findsB L ((l.length : Int) + 1) (iX o k) = false) : codeA L (bodyT l ++ [iX o k]) = ((l.length : Int),28) := by
 have hlen : (((bodyT l ++ [iX o k]).length : Nat) : Int) = (l.length : Int) + 1 := by rw [List.length_append]; unfold bodyT; rw [List.length_map]; rfl
 have hb : (bodyT l).length = l.length := by unfold bodyT; rw [List.length_map]
 unfold codeA
 rw [hlen,badAt_some (k := l.length) (y := iX o k) (fun j x hj hx => ?_) (by rw [List.getElem?_append_right (by omega),hb,Nat.sub_self]; rfl) h]
 rw [List.getElem?_append_left (by omega)] at hx
 unfold bodyT at hx
 rw [List.getElem?_map,Option.map_eq_some_iff] at hx
 obtain ⟨y,-,rfl⟩ := hx
 exact opT_plain y _ _
theorem end_good {l : List UInt8} {L o k : Int} (h : findsB L ((l.length : Int) + 1) (iX o k) = true) : codeA L (bodyT l ++ [iX o k]) = if endsB o then (0,0) else ((l.length : Int),31) := by
 have hlen : (((bodyT l ++ [iX o k]).length : Nat) : Int) = (l.length : Int) + 1 := by rw [List.length_append]; unfold bodyT; rw [List.length_map]; rfl
 have hb : (bodyT l).length = l.length := by unfold bodyT; rw [List.length_map]
 have hL : lastB (bodyT l ++ [iX o k]) = endsB o := by
  unfold lastB
  rw [List.length_append,hb,show l.length + [iX o k].length - 1 = l.length from rfl,List.getElem?_append_right (by omega),hb,Nat.sub_self]
  rfl
 unfold codeA
 rw [hlen,badAt_none (fun j x hx => ?_),hL]
 ·simp only [Int.add_sub_cancel]
 ·by_cases hj : j < l.length
  ·rw [List.getElem?_append_left (by omega)] at hx
   unfold bodyT at hx
   rw [List.getElem?_map,Option.map_eq_some_iff] at hx
   obtain ⟨y,-,rfl⟩ := hx
   exact opT_plain y _ _
  ·rw [List.getElem?_append_right (by omega)] at hx
   obtain rfl : x = iX o k := List.eq_of_mem_singleton (List.mem_of_getElem? hx)
   exact h
theorem end_ans {l : List UInt8} {L o k : Int} {a e : Int} (hL : 0 <= L) (h : codeA L (bodyT l ++ [iX o k]) = (a,e)) (he : e = 0 -> a = 0) : mthA (⟨⟨#[]⟩,[],(0,⟨#[]⟩),true,false,L,bodyT l ++ [iX o k],[]⟩ : Mth) = (a,e) := by
 have hn : ¬ bodyT l ++ [iX o k] = [] := by simp
 have hlo : ¬ L < (0 : Int) := by omega
 by_cases h0 : e = 0
 ·rw [mthA_hs rfl hn hlo (by show (codeA L (bodyT l ++ [iX o k])).2 = 0; rw [h]; exact h0),he h0,h0]
  rfl
 ·rw [mthA_code rfl hn hlo (by show (codeA L (bodyT l ++ [iX o k])).2 ≠ 0; rw [h]; exact h0)]
  exact h
theorem z7e {w : World} {b : Nat} {v0 v1 v2 v3 v4 v5 v6 : Value} (h : CellsAt w b 0 [v0,v1,v2,v3,v4,v5,v6]) : w.cell? ⟨b,0,none⟩ = some v0 /\ w.cell? ⟨b,1,none⟩ = some v1 /\ w.cell? ⟨b,2,none⟩ = some v2 /\ w.cell? ⟨b,3,none⟩ = some v3 /\ w.cell? ⟨b,4,none⟩ = some v4 /\ w.cell? ⟨b,5,none⟩ = some v5 /\ w.cell? ⟨b,6,none⟩ = some v6 := h.seven
theorem rd_place6 {w : World} {p : Option Addr} {n c i : Nat} {l : List UInt8} {x : UInt8} (h : Rd w (.slice p n c) l) (hx : l[i]? = some x) : ∃ a : Addr,p = some a /\ w.cell? (a.add i) = some (.int .u8 (x.toNat : Int)) := by
 obtain ⟨p',c',e,hle,hn,hc⟩ := h
 simp only [Value.slice.injEq] at e
 obtain ⟨rfl,rfl,rfl⟩ := e
 have hi := (List.getElem?_eq_some_iff.1 hx).1
 cases p with
 | none =>
  have := hn rfl
  omega
 | some a => exact ⟨a,rfl,hc a rfl i x hx⟩
theorem end_l (l : List UInt8) (pl : Option Addr) (cl last : Nat) (k : Int) (n : Nat) (w : World) (hg : Glob w) (hb1 : last < 256) (hb3 : n < 256) (hk1 : -9223372036854775808 <= k) (hk2 : k <= 9223372036854775807) (hl : Rd w (.slice pl l.length cl) l) (hpl : l = [] ∨ ∀ g,(Value.slice pl l.length cl).ownBlock = some g -> g < w.heap.size) (hll : l.length <= 9223372036854775807) : Calls Tryz.prog 4 #[.slice pl l.length cl,.int .u8 (last : Int),.int .i64 k,.int .u8 (n : Int)] w fun e w' => e = .returned (.bool true) /\ Below w.heap.size w w' := by
 have HLL := hid hl
 have HPL := hid hpl
 clear hl hpl
 obtain ⟨L,hL⟩ : ∃ L : Nat,(n : Int) % 4 = (L : Int) := ⟨n % 4,by omega⟩
 have hL4 : L < 4 := by omega
 go_enter Tryz.func4,Tryz.ntmps4
 go_wp2_with fail
 refine (known_l w hg).mono ?_
 rintro e1 w1 ⟨rfl,hb⟩
 have HBW := hid hb
 have hsw := hb.size
 replace HLL := hid (HLL.out.below hb HPL.out)
 replace HPL : Hid (l = [] ∨ ∀ g,(Value.slice pl l.length cl).ownBlock = some g -> g < w1.heap.size) := hid (HPL.out.imp id (fun h g e => Nat.lt_of_lt_of_le (h g e) hsw))
 clear hb hg hsw
 by_cases hlen : 20 < l.length
 ·have hlen' : (20 : Int) < (l.length : Int) := by omega
  go_wp2_with fail
  go_ret
  exact ⟨rfl,HBW.out⟩
 ·have hlen' : ¬ (20 : Int) < (l.length : Int) := by omega
  go_upto_region 6 with fail
  obtain ⟨w2,hw2⟩ : ∃ x,x = w1.alloc (.cells #[.string ⟨#[]⟩,.slice none 0 0,.int .i64 0,.string ⟨#[]⟩,.bool true,.bool false,.int .i64 (L : Int),.slice none 0 0,.slice none 0 0] 29) := ⟨_,rfl⟩
  rw [<- hw2]
  have HM : Hid (w2.heap[w1.heap.size]? = some (.cells #[.string ⟨#[]⟩,.slice none 0 0,.int .i64 0,.string ⟨#[]⟩,.bool true,.bool false,.int .i64 (L : Int),.slice none 0 0,.slice none 0 0] 29 (0,0))) := hid (by rw [hw2]; exact heap_alloc_new _ _)
  have HB : Hid (Below w1.heap.size w1 w2) := hid (by rw [hw2]; exact below_alM _ _)
  have hs2 : w1.heap.size + 1 <= w2.heap.size := by rw [hw2]; simp
  clear hw2
  go_wp2_with fail
  clear hL
  go_loopw [10] (fun v wr => ∃ (i : Nat) (pc : Option Addr) (nc cc : Nat),v = .int .i64 (i : Int) /\ i <= l.length /\ Hid (wr.heap[w1.heap.size]? = some (.cells #[.string ⟨#[]⟩,.slice none 0 0,.int .i64 0,.string ⟨#[]⟩,.bool true,.bool false,.int .i64 (L : Int),.slice pc nc cc,.slice none 0 0] 29 (0,0))) /\ Hid (OwnX 7 31 (sP insC) wr (w1.heap.size + 1) (.slice pc nc cc) (bodyT (l.take i))) /\ Hid (Below w1.heap.size w1 wr) /\ w1.heap.size + 1 <= wr.heap.size) (fun v _ => l.length - (intOf v).toNat)
  case atStart => exact ⟨0,none,0,0,rfl,by omega,HM,hid (OwnX.nil _ _ _ _ _),HB,hs2⟩
  case round =>
   clear HM HB hs2
   obtain ⟨i,pc,nc,cc,rfl,hik,HM,HO,HB,hwz⟩ := hrel
   by_cases hlt : i < l.length
   ·have hlt' : (i : Int) < (l.length : Int) := by omega
    obtain ⟨x,hx⟩ : ∃ x,l[i]? = some x := ⟨_,List.getElem?_eq_getElem hlt⟩
    have HNX := hid (bodyT_next hx)
    have hrl := HLL.out.below HB.out HPL.out
    obtain ⟨gl,hgl,hcx⟩ := rd_place6 hrl hx
    subst hgl
    have HXL := hid hx
    clear hrl hx
    obtain ⟨ul,uc,uf⟩ := boxN HM.out
    have u7 := uc 7 _ rfl
    have uz7 := uf 7
    simp only [Nat.zero_add] at u7
    clear uc uf
    have hx4 : x.toNat % 4 = 0 ∨ x.toNat % 4 = 1 ∨ x.toNat % 4 = 2 ∨ x.toNat % 4 = 3 := by omega
    rcases hx4 with h4 | h4 | h4 | h4
    ·have ho : opT x = 6 := by unfold opT; simp [h4]
     have h4i : (x.toNat : Int).tmod 4 = 0 := by rw [Int.tmod_eq_emod_of_nonneg (Int.natCast_nonneg _)]; omega
     have hbT : Below wr.heap.size wr (wr.alloc (.cells #[.int .i64 6,.int .i64 3,.int .i64 40,.int .i64 38] 3)) := below_alM wr _
     have hbA : Below wr.heap.size wr (((wr.alloc (.cells #[.int .i64 6,.int .i64 3,.int .i64 40,.int .i64 38] 3)).alloc (.cells #[.int .i64 6,.int .i32 0,.int .i64 0,.string ⟨#[]⟩,.string ⟨#[]⟩,.string ⟨#[]⟩,.string ⟨#[]⟩] 31)).drew) := (hbT.trans ((below_alM (wr.alloc (.cells #[.int .i64 6,.int .i64 3,.int .i64 40,.int .i64 38] 3)) _).mono hbT.size)).drew
     obtain ⟨gl2,e2,hcx2⟩ := rd_place6 (HLL.out.below (HB.out.trans (hbT.mono HB.out.size)) HPL.out) HXL.out
     cases e2
     have HL : Hid (RdX 7 (sP insC) anyB (((wr.alloc (.cells #[.int .i64 6,.int .i64 3,.int .i64 40,.int .i64 38] 3)).alloc (.cells #[.int .i64 6,.int .i32 0,.int .i64 0,.string ⟨#[]⟩,.string ⟨#[]⟩,.string ⟨#[]⟩,.string ⟨#[]⟩] 31)).drew) (.slice (some ⟨wr.heap.size + 1,0,none⟩) 1 1) [iO 6]) := hid (by have h := (rdX_lits insC_len (wr.alloc (.cells #[.int .i64 6,.int .i64 3,.int .i64 40,.int .i64 38] 3)) [iO 6] #[.int .i64 6,.int .i32 0,.int .i64 0,.string ⟨#[]⟩,.string ⟨#[]⟩,.string ⟨#[]⟩,.string ⟨#[]⟩] 31 rfl).any (sP.grow _) (below_dr6 _); rwa [World.size_alloc] at h)
     have HO2 := hid (HO.out.kptS (.of_below hbA : Kpt [] wr _) (fun _ _ => by simp))
     have hHA := hid ((hbA.block _ ul).trans HM.out)
     have HBA := hid hbA
     clear hbA hbT
     go_wp2_with fail
     go_region_law (refine step_appM inf_ins shape_ins (by rfl) _ _ (by rfl) (w1.heap.size + 1) _ (bodyT (l.take i)) (by rfl) HO2.out _ 0 1 1 [iO 6] (by rfl) HL.out (by unfold bodyT; simp; omega) (by simp; omega) ?_; intro v3 x3 ho3 hg3 hl3; obtain ⟨p3,n3,c3,hv3⟩ := ho3.slice; subst hv3; rw [show ([iO 6] : List Ins) = [iO (opT x)] by rw [ho],HNX.out] at ho3; have HO3 := hid ho3; have HM3 := hid ((hg3.block _ (by simp; omega) (fun e => by have := (HO.out.lt _ e.symm).1; omega)).trans hHA.out); have HG3 := hid hg3; clear ho3 hg3 hl3; obtain ⟨xl,xc,xf⟩ := boxN HM3.out; have x7 := xc 7 _ rfl; have xz7 := xf 7; simp only [Nat.zero_add] at x7; clear xc xf)
     all_goals
      clear h4i
      go_wp2_with fail
      go_roundw
      case rel =>
       have kS : Kpt [w1.heap.size] x3 (x3.setCell ⟨w1.heap.size,7,none⟩ (.slice p3 n3 c3)) := Kpt.set _ _ _ _ _ (by simp)
       have hz4 : wr.heap.size + 2 <= x3.heap.size := by have h := HG3.out.size; simp at h; omega
       refine ⟨i + 1,p3,n3,c3,by go_num,by omega,hid (by rw [heap_setCell_same _ _ 7 _ _ _ HM3.out]; rfl),hid (HO3.out.kptS kS (fun g e => by have := (HO3.out.lt g e).1; simp; omega)),hid ?_,by have := kS.size; omega⟩
       have hbg : Below w1.heap.size (((wr.alloc (.cells #[.int .i64 6,.int .i64 3,.int .i64 40,.int .i64 38] 3)).alloc (.cells #[.int .i64 6,.int .i32 0,.int .i64 0,.string ⟨#[]⟩,.string ⟨#[]⟩,.string ⟨#[]⟩,.string ⟨#[]⟩] 31)).drew) x3 := ⟨HG3.out.os,HG3.out.tape,HG3.out.output,HG3.out.size,fun q hq => HG3.out.block q (by simp; omega) (fun e => by have := (HO.out.lt _ e.symm).1; omega)⟩
       exact ((HB.out.trans (HBA.out.mono (by omega))).trans hbg).trans (Kpt.below kS (fun x hx => by simp at hx; omega) (by omega))
      case measure => simp [intOf]; omega
    ·have ho : opT x = 3 := by unfold opT; simp [h4]
     have h4i : (x.toNat : Int).tmod 4 = 1 := by rw [Int.tmod_eq_emod_of_nonneg (Int.natCast_nonneg _)]; omega
     have hbT : Below wr.heap.size wr (wr.alloc (.cells #[.int .i64 6,.int .i64 3,.int .i64 40,.int .i64 38] 3)) := below_alM wr _
     have hbA : Below wr.heap.size wr (((wr.alloc (.cells #[.int .i64 6,.int .i64 3,.int .i64 40,.int .i64 38] 3)).alloc (.cells #[.int .i64 3,.int .i32 0,.int .i64 0,.string ⟨#[]⟩,.string ⟨#[]⟩,.string ⟨#[]⟩,.string ⟨#[]⟩] 31)).drew) := (hbT.trans ((below_alM (wr.alloc (.cells #[.int .i64 6,.int .i64 3,.int .i64 40,.int .i64 38] 3)) _).mono hbT.size)).drew
     obtain ⟨gl2,e2,hcx2⟩ := rd_place6 (HLL.out.below (HB.out.trans (hbT.mono HB.out.size)) HPL.out) HXL.out
     cases e2
     have HL : Hid (RdX 7 (sP insC) anyB (((wr.alloc (.cells #[.int .i64 6,.int .i64 3,.int .i64 40,.int .i64 38] 3)).alloc (.cells #[.int .i64 3,.int .i32 0,.int .i64 0,.string ⟨#[]⟩,.string ⟨#[]⟩,.string ⟨#[]⟩,.string ⟨#[]⟩] 31)).drew) (.slice (some ⟨wr.heap.size + 1,0,none⟩) 1 1) [iO 3]) := hid (by have h := (rdX_lits insC_len (wr.alloc (.cells #[.int .i64 6,.int .i64 3,.int .i64 40,.int .i64 38] 3)) [iO 3] #[.int .i64 3,.int .i32 0,.int .i64 0,.string ⟨#[]⟩,.string ⟨#[]⟩,.string ⟨#[]⟩,.string ⟨#[]⟩] 31 rfl).any (sP.grow _) (below_dr6 _); rwa [World.size_alloc] at h)
     have HO2 := hid (HO.out.kptS (.of_below hbA : Kpt [] wr _) (fun _ _ => by simp))
     have hHA := hid ((hbA.block _ ul).trans HM.out)
     have HBA := hid hbA
     clear hbA hbT
     go_wp2_with fail
     go_region_law (refine step_appM inf_ins shape_ins (by rfl) _ _ (by rfl) (w1.heap.size + 1) _ (bodyT (l.take i)) (by rfl) HO2.out _ 0 1 1 [iO 3] (by rfl) HL.out (by unfold bodyT; simp; omega) (by simp; omega) ?_; intro v3 x3 ho3 hg3 hl3; obtain ⟨p3,n3,c3,hv3⟩ := ho3.slice; subst hv3; rw [show ([iO 3] : List Ins) = [iO (opT x)] by rw [ho],HNX.out] at ho3; have HO3 := hid ho3; have HM3 := hid ((hg3.block _ (by simp; omega) (fun e => by have := (HO.out.lt _ e.symm).1; omega)).trans hHA.out); have HG3 := hid hg3; clear ho3 hg3 hl3; obtain ⟨xl,xc,xf⟩ := boxN HM3.out; have x7 := xc 7 _ rfl; have xz7 := xf 7; simp only [Nat.zero_add] at x7; clear xc xf)
     all_goals
      clear h4i
      go_wp2_with fail
      go_roundw
      case rel =>
       have kS : Kpt [w1.heap.size] x3 (x3.setCell ⟨w1.heap.size,7,none⟩ (.slice p3 n3 c3)) := Kpt.set _ _ _ _ _ (by simp)
       have hz4 : wr.heap.size + 2 <= x3.heap.size := by have h := HG3.out.size; simp at h; omega
       refine ⟨i + 1,p3,n3,c3,by go_num,by omega,hid (by rw [heap_setCell_same _ _ 7 _ _ _ HM3.out]; rfl),hid (HO3.out.kptS kS (fun g e => by have := (HO3.out.lt g e).1; simp; omega)),hid ?_,by have := kS.size; omega⟩
       have hbg : Below w1.heap.size (((wr.alloc (.cells #[.int .i64 6,.int .i64 3,.int .i64 40,.int .i64 38] 3)).alloc (.cells #[.int .i64 3,.int .i32 0,.int .i64 0,.string ⟨#[]⟩,.string ⟨#[]⟩,.string ⟨#[]⟩,.string ⟨#[]⟩] 31)).drew) x3 := ⟨HG3.out.os,HG3.out.tape,HG3.out.output,HG3.out.size,fun q hq => HG3.out.block q (by simp; omega) (fun e => by have := (HO.out.lt _ e.symm).1; omega)⟩
       exact ((HB.out.trans (HBA.out.mono (by omega))).trans hbg).trans (Kpt.below kS (fun x hx => by simp at hx; omega) (by omega))
      case measure => simp [intOf]; omega
    ·have ho : opT x = 40 := by unfold opT; simp [h4]
     have h4i : (x.toNat : Int).tmod 4 = 2 := by rw [Int.tmod_eq_emod_of_nonneg (Int.natCast_nonneg _)]; omega
     have hbT : Below wr.heap.size wr (wr.alloc (.cells #[.int .i64 6,.int .i64 3,.int .i64 40,.int .i64 38] 3)) := below_alM wr _
     have hbA : Below wr.heap.size wr (((wr.alloc (.cells #[.int .i64 6,.int .i64 3,.int .i64 40,.int .i64 38] 3)).alloc (.cells #[.int .i64 40,.int .i32 0,.int .i64 0,.string ⟨#[]⟩,.string ⟨#[]⟩,.string ⟨#[]⟩,.string ⟨#[]⟩] 31)).drew) := (hbT.trans ((below_alM (wr.alloc (.cells #[.int .i64 6,.int .i64 3,.int .i64 40,.int .i64 38] 3)) _).mono hbT.size)).drew
     obtain ⟨gl2,e2,hcx2⟩ := rd_place6 (HLL.out.below (HB.out.trans (hbT.mono HB.out.size)) HPL.out) HXL.out
     cases e2
     have HL : Hid (RdX 7 (sP insC) anyB (((wr.alloc (.cells #[.int .i64 6,.int .i64 3,.int .i64 40,.int .i64 38] 3)).alloc (.cells #[.int .i64 40,.int .i32 0,.int .i64 0,.string ⟨#[]⟩,.string ⟨#[]⟩,.string ⟨#[]⟩,.string ⟨#[]⟩] 31)).drew) (.slice (some ⟨wr.heap.size + 1,0,none⟩) 1 1) [iO 40]) := hid (by have h := (rdX_lits insC_len (wr.alloc (.cells #[.int .i64 6,.int .i64 3,.int .i64 40,.int .i64 38] 3)) [iO 40] #[.int .i64 40,.int .i32 0,.int .i64 0,.string ⟨#[]⟩,.string ⟨#[]⟩,.string ⟨#[]⟩,.string ⟨#[]⟩] 31 rfl).any (sP.grow _) (below_dr6 _); rwa [World.size_alloc] at h)
     have HO2 := hid (HO.out.kptS (.of_below hbA : Kpt [] wr _) (fun _ _ => by simp))
     have hHA := hid ((hbA.block _ ul).trans HM.out)
     have HBA := hid hbA
     clear hbA hbT
     go_wp2_with fail
     go_region_law (refine step_appM inf_ins shape_ins (by rfl) _ _ (by rfl) (w1.heap.size + 1) _ (bodyT (l.take i)) (by rfl) HO2.out _ 0 1 1 [iO 40] (by rfl) HL.out (by unfold bodyT; simp; omega) (by simp; omega) ?_; intro v3 x3 ho3 hg3 hl3; obtain ⟨p3,n3,c3,hv3⟩ := ho3.slice; subst hv3; rw [show ([iO 40] : List Ins) = [iO (opT x)] by rw [ho],HNX.out] at ho3; have HO3 := hid ho3; have HM3 := hid ((hg3.block _ (by simp; omega) (fun e => by have := (HO.out.lt _ e.symm).1; omega)).trans hHA.out); have HG3 := hid hg3; clear ho3 hg3 hl3; obtain ⟨xl,xc,xf⟩ := boxN HM3.out; have x7 := xc 7 _ rfl; have xz7 := xf 7; simp only [Nat.zero_add] at x7; clear xc xf)
     all_goals
      clear h4i
      go_wp2_with fail
      go_roundw
      case rel =>
       have kS : Kpt [w1.heap.size] x3 (x3.setCell ⟨w1.heap.size,7,none⟩ (.slice p3 n3 c3)) := Kpt.set _ _ _ _ _ (by simp)
       have hz4 : wr.heap.size + 2 <= x3.heap.size := by have h := HG3.out.size; simp at h; omega
       refine ⟨i + 1,p3,n3,c3,by go_num,by omega,hid (by rw [heap_setCell_same _ _ 7 _ _ _ HM3.out]; rfl),hid (HO3.out.kptS kS (fun g e => by have := (HO3.out.lt g e).1; simp; omega)),hid ?_,by have := kS.size; omega⟩
       have hbg : Below w1.heap.size (((wr.alloc (.cells #[.int .i64 6,.int .i64 3,.int .i64 40,.int .i64 38] 3)).alloc (.cells #[.int .i64 40,.int .i32 0,.int .i64 0,.string ⟨#[]⟩,.string ⟨#[]⟩,.string ⟨#[]⟩,.string ⟨#[]⟩] 31)).drew) x3 := ⟨HG3.out.os,HG3.out.tape,HG3.out.output,HG3.out.size,fun q hq => HG3.out.block q (by simp; omega) (fun e => by have := (HO.out.lt _ e.symm).1; omega)⟩
       exact ((HB.out.trans (HBA.out.mono (by omega))).trans hbg).trans (Kpt.below kS (fun x hx => by simp at hx; omega) (by omega))
      case measure => simp [intOf]; omega
    ·have ho : opT x = 38 := by unfold opT; simp [h4]
     have h4i : (x.toNat : Int).tmod 4 = 3 := by rw [Int.tmod_eq_emod_of_nonneg (Int.natCast_nonneg _)]; omega
     have hbT : Below wr.heap.size wr (wr.alloc (.cells #[.int .i64 6,.int .i64 3,.int .i64 40,.int .i64 38] 3)) := below_alM wr _
     have hbA : Below wr.heap.size wr (((wr.alloc (.cells #[.int .i64 6,.int .i64 3,.int .i64 40,.int .i64 38] 3)).alloc (.cells #[.int .i64 38,.int .i32 0,.int .i64 0,.string ⟨#[]⟩,.string ⟨#[]⟩,.string ⟨#[]⟩,.string ⟨#[]⟩] 31)).drew) := (hbT.trans ((below_alM (wr.alloc (.cells #[.int .i64 6,.int .i64 3,.int .i64 40,.int .i64 38] 3)) _).mono hbT.size)).drew
     obtain ⟨gl2,e2,hcx2⟩ := rd_place6 (HLL.out.below (HB.out.trans (hbT.mono HB.out.size)) HPL.out) HXL.out
     cases e2
     have HL : Hid (RdX 7 (sP insC) anyB (((wr.alloc (.cells #[.int .i64 6,.int .i64 3,.int .i64 40,.int .i64 38] 3)).alloc (.cells #[.int .i64 38,.int .i32 0,.int .i64 0,.string ⟨#[]⟩,.string ⟨#[]⟩,.string ⟨#[]⟩,.string ⟨#[]⟩] 31)).drew) (.slice (some ⟨wr.heap.size + 1,0,none⟩) 1 1) [iO 38]) := hid (by have h := (rdX_lits insC_len (wr.alloc (.cells #[.int .i64 6,.int .i64 3,.int .i64 40,.int .i64 38] 3)) [iO 38] #[.int .i64 38,.int .i32 0,.int .i64 0,.string ⟨#[]⟩,.string ⟨#[]⟩,.string ⟨#[]⟩,.string ⟨#[]⟩] 31 rfl).any (sP.grow _) (below_dr6 _); rwa [World.size_alloc] at h)
     have HO2 := hid (HO.out.kptS (.of_below hbA : Kpt [] wr _) (fun _ _ => by simp))
     have hHA := hid ((hbA.block _ ul).trans HM.out)
     have HBA := hid hbA
     clear hbA hbT
     go_wp2_with fail
     go_region_law (refine step_appM inf_ins shape_ins (by rfl) _ _ (by rfl) (w1.heap.size + 1) _ (bodyT (l.take i)) (by rfl) HO2.out _ 0 1 1 [iO 38] (by rfl) HL.out (by unfold bodyT; simp; omega) (by simp; omega) ?_; intro v3 x3 ho3 hg3 hl3; obtain ⟨p3,n3,c3,hv3⟩ := ho3.slice; subst hv3; rw [show ([iO 38] : List Ins) = [iO (opT x)] by rw [ho],HNX.out] at ho3; have HO3 := hid ho3; have HM3 := hid ((hg3.block _ (by simp; omega) (fun e => by have := (HO.out.lt _ e.symm).1; omega)).trans hHA.out); have HG3 := hid hg3; clear ho3 hg3 hl3; obtain ⟨xl,xc,xf⟩ := boxN HM3.out; have x7 := xc 7 _ rfl; have xz7 := xf 7; simp only [Nat.zero_add] at x7; clear xc xf)
     all_goals
      clear h4i
      go_wp2_with fail
      go_roundw
      case rel =>
       have kS : Kpt [w1.heap.size] x3 (x3.setCell ⟨w1.heap.size,7,none⟩ (.slice p3 n3 c3)) := Kpt.set _ _ _ _ _ (by simp)
       have hz4 : wr.heap.size + 2 <= x3.heap.size := by have h := HG3.out.size; simp at h; omega
       refine ⟨i + 1,p3,n3,c3,by go_num,by omega,hid (by rw [heap_setCell_same _ _ 7 _ _ _ HM3.out]; rfl),hid (HO3.out.kptS kS (fun g e => by have := (HO3.out.lt g e).1; simp; omega)),hid ?_,by have := kS.size; omega⟩
       have hbg : Below w1.heap.size (((wr.alloc (.cells #[.int .i64 6,.int .i64 3,.int .i64 40,.int .i64 38] 3)).alloc (.cells #[.int .i64 38,.int .i32 0,.int .i64 0,.string ⟨#[]⟩,.string ⟨#[]⟩,.string ⟨#[]⟩,.string ⟨#[]⟩] 31)).drew) x3 := ⟨HG3.out.os,HG3.out.tape,HG3.out.output,HG3.out.size,fun q hq => HG3.out.block q (by simp; omega) (fun e => by have := (HO.out.lt _ e.symm).1; omega)⟩
       exact ((HB.out.trans (HBA.out.mono (by omega))).trans hbg).trans (Kpt.below kS (fun x hx => by simp at hx; omega) (by omega))
      case measure => simp [intOf]; omega
   ·obtain rfl : i = l.length := by omega
    rw [List.take_length] at HO
    have hl8 : last % 8 = 0 ∨ last % 8 = 1 ∨ last % 8 = 2 ∨ last % 8 = 3 ∨ last % 8 = 4 ∨ last % 8 = 5 ∨ last % 8 = 6 ∨ last % 8 = 7 := by omega
    clear hik hlt
    rcases hl8 with h8 | h8 | h8 | h8 | h8 | h8 | h8 | h8
    ·have h8i : (last : Int) % 8 = 0 := by omega
     go_upto_region 12 with fail
     obtain ⟨w3,hw3⟩ : ∃ x,x = (wr.alloc (.cells #[.int .i64 40,.int .i64 39,.int .i64 38,.int .i64 43,.int .i64 19,.int .i64 6,.int .i64 20,.int .i64 7] 3)).alloc (.cells #[.int .i64 40,.int .i32 0,.int .i64 0,.string ⟨#[]⟩,.string ⟨#[]⟩,.string ⟨#[]⟩,.string ⟨#[]⟩] 31) := ⟨_,rfl⟩
     rw [<- hw3]
     have hb3 : Below wr.heap.size wr w3 := by rw [hw3]; exact (below_alM _ _).trans ((below_alM _ _).mono (by simp))
     have HX : Hid (w3.heap[wr.heap.size + 1]? = some (.cells #[.int .i64 40,.int .i32 0,.int .i64 0,.string ⟨#[]⟩,.string ⟨#[]⟩,.string ⟨#[]⟩,.string ⟨#[]⟩] 31 (0,0))) := hid (by rw [hw3]; have := heap_alloc_new (wr.alloc (.cells #[.int .i64 40,.int .i64 39,.int .i64 38,.int .i64 43,.int .i64 19,.int .i64 6,.int .i64 20,.int .i64 7] 3)) (.cells #[.int .i64 40,.int .i32 0,.int .i64 0,.string ⟨#[]⟩,.string ⟨#[]⟩,.string ⟨#[]⟩,.string ⟨#[]⟩] 31); rwa [World.size_alloc] at this)
     have hs3 : w3.heap.size = wr.heap.size + 2 := by rw [hw3]; simp
     have HM3 := hid ((hb3.block _ (by omega)).trans HM.out)
     have hOlt := HO.out.lt
     have HO3 := hid (HO.out.kptS (.of_below hb3 : Kpt [] wr w3) (fun _ _ => by simp))
     have HB3 := hid (HB.out.trans (hb3.mono (by omega)))
     obtain ⟨X,hX⟩ : ∃ x,wr.heap.size + 1 = x := ⟨_,rfl⟩
     rw [hX] at HX
     rw [hX]
     have hXO : ∀ g,(Value.slice pc nc cc).ownBlock = some g -> g ≠ X := fun g e => by have := (hOlt g e).2; omega
     have HXO := hid hXO
     have hMX : w1.heap.size + 1 <= X := by omega
     have hXs : X < w3.heap.size := by omega
     clear hw3 hb3 hs3 hX hOlt hXO HM HO HB hwz
     clear h8i
     obtain ⟨ul,uc,uf⟩ := boxN HM3.out
     have u7 := uc 7 _ rfl
     have uz7 := uf 7
     simp only [Nat.zero_add] at u7
     clear uc uf
     obtain ⟨y0,y1,y2,y3,y4,y5,y6⟩ := z7e (boxN HX.out).2.1
     have HL := hid (rdX_lits insC_len w3 [iX 40 0] #[.int .i64 40,.int .i32 0,.int .i64 0,.string ⟨#[]⟩,.string ⟨#[]⟩,.string ⟨#[]⟩,.string ⟨#[]⟩] 31 rfl)
     have HO2 := hid (HO3.out.kptS (.of_below (below_alM w3 (.cells #[.int .i64 40,.int .i32 0,.int .i64 0,.string ⟨#[]⟩,.string ⟨#[]⟩,.string ⟨#[]⟩,.string ⟨#[]⟩] 31)) : Kpt [] w3 _) (fun _ _ => by simp))
     go_upto_region 16 with (at_builtin; refine wp_appM inf_ins shape_ins rfl _ _ rfl (w1.heap.size + 1) _ (bodyT l) rfl HO2.out w3.heap.size 0 1 1 [iX 40 0] rfl HL.out (by unfold bodyT; simp; omega) (by simp; omega) ?_; intro v3 x3 ho3 hg3 hl3; obtain ⟨p3,n3,c3,hv3⟩ := ho3.slice; subst hv3; have HO5 := hid ho3; have hHM := (hg3.block _ (by simp; omega) (fun e => by have := (HO3.out.lt _ e.symm).1; omega)).trans (((below_alM w3 _).block _ (by omega)).trans HM3.out); have HM5 := hid hHM; have hHX := (hg3.block _ (by simp; omega) (fun e => HXO.out _ e.symm rfl)).trans (((below_alM w3 _).block _ (by omega)).trans HX.out); have HX5 := hid hHX; clear hHM hHX; have HG5 := hid hg3; clear ho3 hg3 hl3; obtain ⟨xl,xc,xf⟩ := boxN HM5.out; have x7 := xc 7 _ rfl; have xz7 := xf 7; simp only [Nat.zero_add] at x7; clear xc xf)
     obtain ⟨w5,hw5⟩ : ∃ x,x = x3.setCell ⟨w1.heap.size,7,none⟩ (.slice p3 n3 c3) := ⟨_,rfl⟩
     rw [<- hw5]
     obtain ⟨p1,p2,p4⟩ := box_set (cs' := #[.string ⟨#[]⟩,.slice none 0 0,.int .i64 0,.string ⟨#[]⟩,.bool true,.bool false,.int .i64 (L : Int),.slice p3 n3 c3,.slice none 0 0]) HM5.out hw5 rfl
     have hz3 := HG5.out.size
     simp only [World.size_alloc] at hz3
     have hbg : Below w1.heap.size (w3.alloc (.cells #[.int .i64 40,.int .i32 0,.int .i64 0,.string ⟨#[]⟩,.string ⟨#[]⟩,.string ⟨#[]⟩,.string ⟨#[]⟩] 31)) x3 := ⟨HG5.out.os,HG5.out.tape,HG5.out.output,HG5.out.size,fun q hq => HG5.out.block q (by simp; omega) (fun e => by have := (HO3.out.lt _ e.symm).1; omega)⟩
     have HB5 := hid (((HB3.out.trans ((below_alM w3 _).mono (by omega))).trans hbg).trans (p2.below (fun x hx => by simp at hx; omega) (by omega)))
     have HX6 := hid ((p2.2 X (by omega) (by simp; omega)).trans HX5.out)
     have HM6 := hid p1
     have HRC : Hid (RdX 7 (sP insC) anyB w5 (.slice p3 n3 c3) (bodyT l ++ [iX 40 0])) := hid (((HO5.out.kptS p2 (fun g e => by have := (HO5.out.lt g e).1; simp; omega)).rd (sP.grow _)).step (sP.grow _) (fun _ _ _ => trivial) (fun _ _ _ => rfl) (Nat.le_refl _))
     have hn3 : n3 = l.length + 1 := by
      obtain ⟨q,c',e,-⟩ := HRC.out.len
      simp only [Value.slice.injEq] at e
      rw [e.2.1,List.length_append]
      unfold bodyT
      rw [List.length_map]
      rfl
     subst hn3
     have hXs5 : X < w5.heap.size := by omega
     clear HO5 HG5 HO2 HL HM5 HX5 p1 p2 p4 hbg hz3 hw5 xl x7 xz7 u7 uz7 ul y0 y1 y2 y3 y4 y5 y6 HM3 HX HO3 HB3 HXO
     obtain ⟨q0,q1,q2,q3,q4,q5,q6,q7,q8⟩ := z9 (boxN HM6.out).2.1
     have ql := (boxN HM6.out).1
     go_wp2_with fail
     refine (method_a _ _ _ _ _ _ _ _ _ _ _ _ _ _ _ [] (bodyT l ++ [iX 40 0]) [] anyB w5 rfl (by decide) HRC.out (RdX.nil _ _ _ _) (by omega) (by decide)).mono ?_
     rintro e6 w6 ⟨he6,hb6⟩
     have HB6 := hid (HB5.out.trans (hb6.mono HB5.out.size))
     have hm6 := (hb6.block _ ql).trans HM6.out
     have hx6 := (hb6.block _ hXs5).trans HX6.out
     clear q0 q1 q2 q3 q4 q5 q6 q7 q8 ql hb6 HM6 HX6 HB5 HRC
     clear hm6 hx6
     have HF : findsB (L : Int) ((l.length : Int) + 1) (iX 40 0) = true := rfl
     have HA := end_ans (l := l) (L := (L : Int)) (by omega) ((end_good (l := l) (L := (L : Int)) (o := 40) (k := 0) HF).trans (if_pos rfl)) (fun _ => rfl)
     rw [HA] at he6
     subst he6
     clear HA
     have h8i : (last : Int) % 8 = 0 := by omega
     go_wp2_with fail
     go_ret
     exact ⟨rfl,HBW.out.trans (HB6.out.mono HBW.out.size)⟩
    ·have h8i : (last : Int) % 8 = 1 := by omega
     go_upto_region 12 with fail
     obtain ⟨w3,hw3⟩ : ∃ x,x = (wr.alloc (.cells #[.int .i64 40,.int .i64 39,.int .i64 38,.int .i64 43,.int .i64 19,.int .i64 6,.int .i64 20,.int .i64 7] 3)).alloc (.cells #[.int .i64 39,.int .i32 0,.int .i64 0,.string ⟨#[]⟩,.string ⟨#[]⟩,.string ⟨#[]⟩,.string ⟨#[]⟩] 31) := ⟨_,rfl⟩
     rw [<- hw3]
     have hb3 : Below wr.heap.size wr w3 := by rw [hw3]; exact (below_alM _ _).trans ((below_alM _ _).mono (by simp))
     have HX : Hid (w3.heap[wr.heap.size + 1]? = some (.cells #[.int .i64 39,.int .i32 0,.int .i64 0,.string ⟨#[]⟩,.string ⟨#[]⟩,.string ⟨#[]⟩,.string ⟨#[]⟩] 31 (0,0))) := hid (by rw [hw3]; have := heap_alloc_new (wr.alloc (.cells #[.int .i64 40,.int .i64 39,.int .i64 38,.int .i64 43,.int .i64 19,.int .i64 6,.int .i64 20,.int .i64 7] 3)) (.cells #[.int .i64 39,.int .i32 0,.int .i64 0,.string ⟨#[]⟩,.string ⟨#[]⟩,.string ⟨#[]⟩,.string ⟨#[]⟩] 31); rwa [World.size_alloc] at this)
     have hs3 : w3.heap.size = wr.heap.size + 2 := by rw [hw3]; simp
     have HM3 := hid ((hb3.block _ (by omega)).trans HM.out)
     have hOlt := HO.out.lt
     have HO3 := hid (HO.out.kptS (.of_below hb3 : Kpt [] wr w3) (fun _ _ => by simp))
     have HB3 := hid (HB.out.trans (hb3.mono (by omega)))
     obtain ⟨X,hX⟩ : ∃ x,wr.heap.size + 1 = x := ⟨_,rfl⟩
     rw [hX] at HX
     rw [hX]
     have hXO : ∀ g,(Value.slice pc nc cc).ownBlock = some g -> g ≠ X := fun g e => by have := (hOlt g e).2; omega
     have HXO := hid hXO
     have hMX : w1.heap.size + 1 <= X := by omega
     have hXs : X < w3.heap.size := by omega
     clear hw3 hb3 hs3 hX hOlt hXO HM HO HB hwz
     clear h8i
     obtain ⟨ul,uc,uf⟩ := boxN HM3.out
     have u7 := uc 7 _ rfl
     have uz7 := uf 7
     simp only [Nat.zero_add] at u7
     clear uc uf
     obtain ⟨y0,y1,y2,y3,y4,y5,y6⟩ := z7e (boxN HX.out).2.1
     have HL := hid (rdX_lits insC_len w3 [iX 39 0] #[.int .i64 39,.int .i32 0,.int .i64 0,.string ⟨#[]⟩,.string ⟨#[]⟩,.string ⟨#[]⟩,.string ⟨#[]⟩] 31 rfl)
     have HO2 := hid (HO3.out.kptS (.of_below (below_alM w3 (.cells #[.int .i64 39,.int .i32 0,.int .i64 0,.string ⟨#[]⟩,.string ⟨#[]⟩,.string ⟨#[]⟩,.string ⟨#[]⟩] 31)) : Kpt [] w3 _) (fun _ _ => by simp))
     go_upto_region 16 with (at_builtin; refine wp_appM inf_ins shape_ins rfl _ _ rfl (w1.heap.size + 1) _ (bodyT l) rfl HO2.out w3.heap.size 0 1 1 [iX 39 0] rfl HL.out (by unfold bodyT; simp; omega) (by simp; omega) ?_; intro v3 x3 ho3 hg3 hl3; obtain ⟨p3,n3,c3,hv3⟩ := ho3.slice; subst hv3; have HO5 := hid ho3; have hHM := (hg3.block _ (by simp; omega) (fun e => by have := (HO3.out.lt _ e.symm).1; omega)).trans (((below_alM w3 _).block _ (by omega)).trans HM3.out); have HM5 := hid hHM; have hHX := (hg3.block _ (by simp; omega) (fun e => HXO.out _ e.symm rfl)).trans (((below_alM w3 _).block _ (by omega)).trans HX.out); have HX5 := hid hHX; clear hHM hHX; have HG5 := hid hg3; clear ho3 hg3 hl3; obtain ⟨xl,xc,xf⟩ := boxN HM5.out; have x7 := xc 7 _ rfl; have xz7 := xf 7; simp only [Nat.zero_add] at x7; clear xc xf)
     obtain ⟨w5,hw5⟩ : ∃ x,x = x3.setCell ⟨w1.heap.size,7,none⟩ (.slice p3 n3 c3) := ⟨_,rfl⟩
     rw [<- hw5]
     obtain ⟨p1,p2,p4⟩ := box_set (cs' := #[.string ⟨#[]⟩,.slice none 0 0,.int .i64 0,.string ⟨#[]⟩,.bool true,.bool false,.int .i64 (L : Int),.slice p3 n3 c3,.slice none 0 0]) HM5.out hw5 rfl
     have hz3 := HG5.out.size
     simp only [World.size_alloc] at hz3
     have hbg : Below w1.heap.size (w3.alloc (.cells #[.int .i64 39,.int .i32 0,.int .i64 0,.string ⟨#[]⟩,.string ⟨#[]⟩,.string ⟨#[]⟩,.string ⟨#[]⟩] 31)) x3 := ⟨HG5.out.os,HG5.out.tape,HG5.out.output,HG5.out.size,fun q hq => HG5.out.block q (by simp; omega) (fun e => by have := (HO3.out.lt _ e.symm).1; omega)⟩
     have HB5 := hid (((HB3.out.trans ((below_alM w3 _).mono (by omega))).trans hbg).trans (p2.below (fun x hx => by simp at hx; omega) (by omega)))
     have HX6 := hid ((p2.2 X (by omega) (by simp; omega)).trans HX5.out)
     have HM6 := hid p1
     have HRC : Hid (RdX 7 (sP insC) anyB w5 (.slice p3 n3 c3) (bodyT l ++ [iX 39 0])) := hid (((HO5.out.kptS p2 (fun g e => by have := (HO5.out.lt g e).1; simp; omega)).rd (sP.grow _)).step (sP.grow _) (fun _ _ _ => trivial) (fun _ _ _ => rfl) (Nat.le_refl _))
     have hn3 : n3 = l.length + 1 := by
      obtain ⟨q,c',e,-⟩ := HRC.out.len
      simp only [Value.slice.injEq] at e
      rw [e.2.1,List.length_append]
      unfold bodyT
      rw [List.length_map]
      rfl
     subst hn3
     have hXs5 : X < w5.heap.size := by omega
     clear HO5 HG5 HO2 HL HM5 HX5 p1 p2 p4 hbg hz3 hw5 xl x7 xz7 u7 uz7 ul y0 y1 y2 y3 y4 y5 y6 HM3 HX HO3 HB3 HXO
     obtain ⟨q0,q1,q2,q3,q4,q5,q6,q7,q8⟩ := z9 (boxN HM6.out).2.1
     have ql := (boxN HM6.out).1
     go_wp2_with fail
     refine (method_a _ _ _ _ _ _ _ _ _ _ _ _ _ _ _ [] (bodyT l ++ [iX 39 0]) [] anyB w5 rfl (by decide) HRC.out (RdX.nil _ _ _ _) (by omega) (by decide)).mono ?_
     rintro e6 w6 ⟨he6,hb6⟩
     have HB6 := hid (HB5.out.trans (hb6.mono HB5.out.size))
     have hm6 := (hb6.block _ ql).trans HM6.out
     have hx6 := (hb6.block _ hXs5).trans HX6.out
     clear q0 q1 q2 q3 q4 q5 q6 q7 q8 ql hb6 HM6 HX6 HB5 HRC
     clear hm6 hx6
     have HF : findsB (L : Int) ((l.length : Int) + 1) (iX 39 0) = true := rfl
     have HA := end_ans (l := l) (L := (L : Int)) (by omega) ((end_good (l := l) (L := (L : Int)) (o := 39) (k := 0) HF).trans (if_pos rfl)) (fun _ => rfl)
     rw [HA] at he6
     subst he6
     clear HA
     have h8i : (last : Int) % 8 = 1 := by omega
     go_wp2_with fail
     go_ret
     exact ⟨rfl,HBW.out.trans (HB6.out.mono HBW.out.size)⟩
    ·have h8i : (last : Int) % 8 = 2 := by omega
     go_upto_region 12 with fail
     obtain ⟨w3,hw3⟩ : ∃ x,x = (wr.alloc (.cells #[.int .i64 40,.int .i64 39,.int .i64 38,.int .i64 43,.int .i64 19,.int .i64 6,.int .i64 20,.int .i64 7] 3)).alloc (.cells #[.int .i64 38,.int .i32 0,.int .i64 0,.string ⟨#[]⟩,.string ⟨#[]⟩,.string ⟨#[]⟩,.string ⟨#[]⟩] 31) := ⟨_,rfl⟩
     rw [<- hw3]
     have hb3 : Below wr.heap.size wr w3 := by rw [hw3]; exact (below_alM _ _).trans ((below_alM _ _).mono (by simp))
     have HX : Hid (w3.heap[wr.heap.size + 1]? = some (.cells #[.int .i64 38,.int .i32 0,.int .i64 0,.string ⟨#[]⟩,.string ⟨#[]⟩,.string ⟨#[]⟩,.string ⟨#[]⟩] 31 (0,0))) := hid (by rw [hw3]; have := heap_alloc_new (wr.alloc (.cells #[.int .i64 40,.int .i64 39,.int .i64 38,.int .i64 43,.int .i64 19,.int .i64 6,.int .i64 20,.int .i64 7] 3)) (.cells #[.int .i64 38,.int .i32 0,.int .i64 0,.string ⟨#[]⟩,.string ⟨#[]⟩,.string ⟨#[]⟩,.string ⟨#[]⟩] 31); rwa [World.size_alloc] at this)
     have hs3 : w3.heap.size = wr.heap.size + 2 := by rw [hw3]; simp
     have HM3 := hid ((hb3.block _ (by omega)).trans HM.out)
     have hOlt := HO.out.lt
     have HO3 := hid (HO.out.kptS (.of_below hb3 : Kpt [] wr w3) (fun _ _ => by simp))
     have HB3 := hid (HB.out.trans (hb3.mono (by omega)))
     obtain ⟨X,hX⟩ : ∃ x,wr.heap.size + 1 = x := ⟨_,rfl⟩
     rw [hX] at HX
     rw [hX]
     have hXO : ∀ g,(Value.slice pc nc cc).ownBlock = some g -> g ≠ X := fun g e => by have := (hOlt g e).2; omega
     have HXO := hid hXO
     have hMX : w1.heap.size + 1 <= X := by omega
     have hXs : X < w3.heap.size := by omega
     clear hw3 hb3 hs3 hX hOlt hXO HM HO HB hwz
     clear h8i
     obtain ⟨ul,uc,uf⟩ := boxN HM3.out
     have u7 := uc 7 _ rfl
     have uz7 := uf 7
     simp only [Nat.zero_add] at u7
     clear uc uf
     obtain ⟨y0,y1,y2,y3,y4,y5,y6⟩ := z7e (boxN HX.out).2.1
     have HL := hid (rdX_lits insC_len w3 [iX 38 0] #[.int .i64 38,.int .i32 0,.int .i64 0,.string ⟨#[]⟩,.string ⟨#[]⟩,.string ⟨#[]⟩,.string ⟨#[]⟩] 31 rfl)
     have HO2 := hid (HO3.out.kptS (.of_below (below_alM w3 (.cells #[.int .i64 38,.int .i32 0,.int .i64 0,.string ⟨#[]⟩,.string ⟨#[]⟩,.string ⟨#[]⟩,.string ⟨#[]⟩] 31)) : Kpt [] w3 _) (fun _ _ => by simp))
     go_upto_region 16 with (at_builtin; refine wp_appM inf_ins shape_ins rfl _ _ rfl (w1.heap.size + 1) _ (bodyT l) rfl HO2.out w3.heap.size 0 1 1 [iX 38 0] rfl HL.out (by unfold bodyT; simp; omega) (by simp; omega) ?_; intro v3 x3 ho3 hg3 hl3; obtain ⟨p3,n3,c3,hv3⟩ := ho3.slice; subst hv3; have HO5 := hid ho3; have hHM := (hg3.block _ (by simp; omega) (fun e => by have := (HO3.out.lt _ e.symm).1; omega)).trans (((below_alM w3 _).block _ (by omega)).trans HM3.out); have HM5 := hid hHM; have hHX := (hg3.block _ (by simp; omega) (fun e => HXO.out _ e.symm rfl)).trans (((below_alM w3 _).block _ (by omega)).trans HX.out); have HX5 := hid hHX; clear hHM hHX; have HG5 := hid hg3; clear ho3 hg3 hl3; obtain ⟨xl,xc,xf⟩ := boxN HM5.out; have x7 := xc 7 _ rfl; have xz7 := xf 7; simp only [Nat.zero_add] at x7; clear xc xf)
     obtain ⟨w5,hw5⟩ : ∃ x,x = x3.setCell ⟨w1.heap.size,7,none⟩ (.slice p3 n3 c3) := ⟨_,rfl⟩
     rw [<- hw5]
     obtain ⟨p1,p2,p4⟩ := box_set (cs' := #[.string ⟨#[]⟩,.slice none 0 0,.int .i64 0,.string ⟨#[]⟩,.bool true,.bool false,.int .i64 (L : Int),.slice p3 n3 c3,.slice none 0 0]) HM5.out hw5 rfl
     have hz3 := HG5.out.size
     simp only [World.size_alloc] at hz3
     have hbg : Below w1.heap.size (w3.alloc (.cells #[.int .i64 38,.int .i32 0,.int .i64 0,.string ⟨#[]⟩,.string ⟨#[]⟩,.string ⟨#[]⟩,.string ⟨#[]⟩] 31)) x3 := ⟨HG5.out.os,HG5.out.tape,HG5.out.output,HG5.out.size,fun q hq => HG5.out.block q (by simp; omega) (fun e => by have := (HO3.out.lt _ e.symm).1; omega)⟩
     have HB5 := hid (((HB3.out.trans ((below_alM w3 _).mono (by omega))).trans hbg).trans (p2.below (fun x hx => by simp at hx; omega) (by omega)))
     have HX6 := hid ((p2.2 X (by omega) (by simp; omega)).trans HX5.out)
     have HM6 := hid p1
     have HRC : Hid (RdX 7 (sP insC) anyB w5 (.slice p3 n3 c3) (bodyT l ++ [iX 38 0])) := hid (((HO5.out.kptS p2 (fun g e => by have := (HO5.out.lt g e).1; simp; omega)).rd (sP.grow _)).step (sP.grow _) (fun _ _ _ => trivial) (fun _ _ _ => rfl) (Nat.le_refl _))
     have hn3 : n3 = l.length + 1 := by
      obtain ⟨q,c',e,-⟩ := HRC.out.len
      simp only [Value.slice.injEq] at e
      rw [e.2.1,List.length_append]
      unfold bodyT
      rw [List.length_map]
      rfl
     subst hn3
     have hXs5 : X < w5.heap.size := by omega
     clear HO5 HG5 HO2 HL HM5 HX5 p1 p2 p4 hbg hz3 hw5 xl x7 xz7 u7 uz7 ul y0 y1 y2 y3 y4 y5 y6 HM3 HX HO3 HB3 HXO
     obtain ⟨q0,q1,q2,q3,q4,q5,q6,q7,q8⟩ := z9 (boxN HM6.out).2.1
     have ql := (boxN HM6.out).1
     go_wp2_with fail
     refine (method_a _ _ _ _ _ _ _ _ _ _ _ _ _ _ _ [] (bodyT l ++ [iX 38 0]) [] anyB w5 rfl (by decide) HRC.out (RdX.nil _ _ _ _) (by omega) (by decide)).mono ?_
     rintro e6 w6 ⟨he6,hb6⟩
     have HB6 := hid (HB5.out.trans (hb6.mono HB5.out.size))
     have hm6 := (hb6.block _ ql).trans HM6.out
     have hx6 := (hb6.block _ hXs5).trans HX6.out
     clear q0 q1 q2 q3 q4 q5 q6 q7 q8 ql hb6 HM6 HX6 HB5 HRC
     clear hm6 hx6
     have HF : findsB (L : Int) ((l.length : Int) + 1) (iX 38 0) = true := rfl
     have HA := end_ans (l := l) (L := (L : Int)) (by omega) ((end_good (l := l) (L := (L : Int)) (o := 38) (k := 0) HF).trans (if_pos rfl)) (fun _ => rfl)
     rw [HA] at he6
     subst he6
     clear HA
     have h8i : (last : Int) % 8 = 2 := by omega
     go_wp2_with fail
     go_ret
     exact ⟨rfl,HBW.out.trans (HB6.out.mono HBW.out.size)⟩
    ·have h8i : (last : Int) % 8 = 3 := by omega
     go_upto_region 12 with fail
     obtain ⟨w3,hw3⟩ : ∃ x,x = (wr.alloc (.cells #[.int .i64 40,.int .i64 39,.int .i64 38,.int .i64 43,.int .i64 19,.int .i64 6,.int .i64 20,.int .i64 7] 3)).alloc (.cells #[.int .i64 43,.int .i32 0,.int .i64 0,.string ⟨#[]⟩,.string ⟨#[]⟩,.string ⟨#[]⟩,.string ⟨#[]⟩] 31) := ⟨_,rfl⟩
     rw [<- hw3]
     have hb3 : Below wr.heap.size wr w3 := by rw [hw3]; exact (below_alM _ _).trans ((below_alM _ _).mono (by simp))
     have HX : Hid (w3.heap[wr.heap.size + 1]? = some (.cells #[.int .i64 43,.int .i32 0,.int .i64 0,.string ⟨#[]⟩,.string ⟨#[]⟩,.string ⟨#[]⟩,.string ⟨#[]⟩] 31 (0,0))) := hid (by rw [hw3]; have := heap_alloc_new (wr.alloc (.cells #[.int .i64 40,.int .i64 39,.int .i64 38,.int .i64 43,.int .i64 19,.int .i64 6,.int .i64 20,.int .i64 7] 3)) (.cells #[.int .i64 43,.int .i32 0,.int .i64 0,.string ⟨#[]⟩,.string ⟨#[]⟩,.string ⟨#[]⟩,.string ⟨#[]⟩] 31); rwa [World.size_alloc] at this)
     have hs3 : w3.heap.size = wr.heap.size + 2 := by rw [hw3]; simp
     have HM3 := hid ((hb3.block _ (by omega)).trans HM.out)
     have hOlt := HO.out.lt
     have HO3 := hid (HO.out.kptS (.of_below hb3 : Kpt [] wr w3) (fun _ _ => by simp))
     have HB3 := hid (HB.out.trans (hb3.mono (by omega)))
     obtain ⟨X,hX⟩ : ∃ x,wr.heap.size + 1 = x := ⟨_,rfl⟩
     rw [hX] at HX
     rw [hX]
     have hXO : ∀ g,(Value.slice pc nc cc).ownBlock = some g -> g ≠ X := fun g e => by have := (hOlt g e).2; omega
     have HXO := hid hXO
     have hMX : w1.heap.size + 1 <= X := by omega
     have hXs : X < w3.heap.size := by omega
     clear hw3 hb3 hs3 hX hOlt hXO HM HO HB hwz
     clear h8i
     obtain ⟨ul,uc,uf⟩ := boxN HM3.out
     have u7 := uc 7 _ rfl
     have uz7 := uf 7
     simp only [Nat.zero_add] at u7
     clear uc uf
     obtain ⟨y0,y1,y2,y3,y4,y5,y6⟩ := z7e (boxN HX.out).2.1
     have HL := hid (rdX_lits insC_len w3 [iX 43 0] #[.int .i64 43,.int .i32 0,.int .i64 0,.string ⟨#[]⟩,.string ⟨#[]⟩,.string ⟨#[]⟩,.string ⟨#[]⟩] 31 rfl)
     have HO2 := hid (HO3.out.kptS (.of_below (below_alM w3 (.cells #[.int .i64 43,.int .i32 0,.int .i64 0,.string ⟨#[]⟩,.string ⟨#[]⟩,.string ⟨#[]⟩,.string ⟨#[]⟩] 31)) : Kpt [] w3 _) (fun _ _ => by simp))
     go_upto_region 16 with (at_builtin; refine wp_appM inf_ins shape_ins rfl _ _ rfl (w1.heap.size + 1) _ (bodyT l) rfl HO2.out w3.heap.size 0 1 1 [iX 43 0] rfl HL.out (by unfold bodyT; simp; omega) (by simp; omega) ?_; intro v3 x3 ho3 hg3 hl3; obtain ⟨p3,n3,c3,hv3⟩ := ho3.slice; subst hv3; have HO5 := hid ho3; have hHM := (hg3.block _ (by simp; omega) (fun e => by have := (HO3.out.lt _ e.symm).1; omega)).trans (((below_alM w3 _).block _ (by omega)).trans HM3.out); have HM5 := hid hHM; have hHX := (hg3.block _ (by simp; omega) (fun e => HXO.out _ e.symm rfl)).trans (((below_alM w3 _).block _ (by omega)).trans HX.out); have HX5 := hid hHX; clear hHM hHX; have HG5 := hid hg3; clear ho3 hg3 hl3; obtain ⟨xl,xc,xf⟩ := boxN HM5.out; have x7 := xc 7 _ rfl; have xz7 := xf 7; simp only [Nat.zero_add] at x7; clear xc xf)
     obtain ⟨w5,hw5⟩ : ∃ x,x = x3.setCell ⟨w1.heap.size,7,none⟩ (.slice p3 n3 c3) := ⟨_,rfl⟩
     rw [<- hw5]
     obtain ⟨p1,p2,p4⟩ := box_set (cs' := #[.string ⟨#[]⟩,.slice none 0 0,.int .i64 0,.string ⟨#[]⟩,.bool true,.bool false,.int .i64 (L : Int),.slice p3 n3 c3,.slice none 0 0]) HM5.out hw5 rfl
     have hz3 := HG5.out.size
     simp only [World.size_alloc] at hz3
     have hbg : Below w1.heap.size (w3.alloc (.cells #[.int .i64 43,.int .i32 0,.int .i64 0,.string ⟨#[]⟩,.string ⟨#[]⟩,.string ⟨#[]⟩,.string ⟨#[]⟩] 31)) x3 := ⟨HG5.out.os,HG5.out.tape,HG5.out.output,HG5.out.size,fun q hq => HG5.out.block q (by simp; omega) (fun e => by have := (HO3.out.lt _ e.symm).1; omega)⟩
     have HB5 := hid (((HB3.out.trans ((below_alM w3 _).mono (by omega))).trans hbg).trans (p2.below (fun x hx => by simp at hx; omega) (by omega)))
     have HX6 := hid ((p2.2 X (by omega) (by simp; omega)).trans HX5.out)
     have HM6 := hid p1
     have HRC : Hid (RdX 7 (sP insC) anyB w5 (.slice p3 n3 c3) (bodyT l ++ [iX 43 0])) := hid (((HO5.out.kptS p2 (fun g e => by have := (HO5.out.lt g e).1; simp; omega)).rd (sP.grow _)).step (sP.grow _) (fun _ _ _ => trivial) (fun _ _ _ => rfl) (Nat.le_refl _))
     have hn3 : n3 = l.length + 1 := by
      obtain ⟨q,c',e,-⟩ := HRC.out.len
      simp only [Value.slice.injEq] at e
      rw [e.2.1,List.length_append]
      unfold bodyT
      rw [List.length_map]
      rfl
     subst hn3
     have hXs5 : X < w5.heap.size := by omega
     clear HO5 HG5 HO2 HL HM5 HX5 p1 p2 p4 hbg hz3 hw5 xl x7 xz7 u7 uz7 ul y0 y1 y2 y3 y4 y5 y6 HM3 HX HO3 HB3 HXO
     obtain ⟨q0,q1,q2,q3,q4,q5,q6,q7,q8⟩ := z9 (boxN HM6.out).2.1
     have ql := (boxN HM6.out).1
     go_wp2_with fail
     refine (method_a _ _ _ _ _ _ _ _ _ _ _ _ _ _ _ [] (bodyT l ++ [iX 43 0]) [] anyB w5 rfl (by decide) HRC.out (RdX.nil _ _ _ _) (by omega) (by decide)).mono ?_
     rintro e6 w6 ⟨he6,hb6⟩
     have HB6 := hid (HB5.out.trans (hb6.mono HB5.out.size))
     have hm6 := (hb6.block _ ql).trans HM6.out
     have hx6 := (hb6.block _ hXs5).trans HX6.out
     clear q0 q1 q2 q3 q4 q5 q6 q7 q8 ql hb6 HM6 HX6 HB5 HRC
     clear hm6 hx6
     have HF : findsB (L : Int) ((l.length : Int) + 1) (iX 43 0) = true := rfl
     have HA := end_ans (l := l) (L := (L : Int)) (by omega) ((end_good (l := l) (L := (L : Int)) (o := 43) (k := 0) HF).trans (if_pos rfl)) (fun _ => rfl)
     rw [HA] at he6
     subst he6
     clear HA
     have h8i : (last : Int) % 8 = 3 := by omega
     go_wp2_with fail
     go_ret
     exact ⟨rfl,HBW.out.trans (HB6.out.mono HBW.out.size)⟩
    ·have h8i : (last : Int) % 8 = 4 := by omega
     go_upto_region 12 with fail
     obtain ⟨w3,hw3⟩ : ∃ x,x = (wr.alloc (.cells #[.int .i64 40,.int .i64 39,.int .i64 38,.int .i64 43,.int .i64 19,.int .i64 6,.int .i64 20,.int .i64 7] 3)).alloc (.cells #[.int .i64 19,.int .i32 0,.int .i64 0,.string ⟨#[]⟩,.string ⟨#[]⟩,.string ⟨#[]⟩,.string ⟨#[]⟩] 31) := ⟨_,rfl⟩
     rw [<- hw3]
     have hb3 : Below wr.heap.size wr w3 := by rw [hw3]; exact (below_alM _ _).trans ((below_alM _ _).mono (by simp))
     have HX : Hid (w3.heap[wr.heap.size + 1]? = some (.cells #[.int .i64 19,.int .i32 0,.int .i64 0,.string ⟨#[]⟩,.string ⟨#[]⟩,.string ⟨#[]⟩,.string ⟨#[]⟩] 31 (0,0))) := hid (by rw [hw3]; have := heap_alloc_new (wr.alloc (.cells #[.int .i64 40,.int .i64 39,.int .i64 38,.int .i64 43,.int .i64 19,.int .i64 6,.int .i64 20,.int .i64 7] 3)) (.cells #[.int .i64 19,.int .i32 0,.int .i64 0,.string ⟨#[]⟩,.string ⟨#[]⟩,.string ⟨#[]⟩,.string ⟨#[]⟩] 31); rwa [World.size_alloc] at this)
     have hs3 : w3.heap.size = wr.heap.size + 2 := by rw [hw3]; simp
     have HM3 := hid ((hb3.block _ (by omega)).trans HM.out)
     have hOlt := HO.out.lt
     have HO3 := hid (HO.out.kptS (.of_below hb3 : Kpt [] wr w3) (fun _ _ => by simp))
     have HB3 := hid (HB.out.trans (hb3.mono (by omega)))
     obtain ⟨X,hX⟩ : ∃ x,wr.heap.size + 1 = x := ⟨_,rfl⟩
     rw [hX] at HX
     rw [hX]
     have hXO : ∀ g,(Value.slice pc nc cc).ownBlock = some g -> g ≠ X := fun g e => by have := (hOlt g e).2; omega
     have HXO := hid hXO
     have hMX : w1.heap.size + 1 <= X := by omega
     have hXs : X < w3.heap.size := by omega
     clear hw3 hb3 hs3 hX hOlt hXO HM HO HB hwz
     obtain ⟨K,hK,hK0,hK1⟩ : ∃ x : Int,bits .and .i64 k 31 = x /\ 0 <= x /\ x <= 31 := ⟨k % 32,and31 k,by omega,by omega⟩
     obtain ⟨yl,yc,yf⟩ := boxN HX.out
     have y2 := yc 2 _ rfl
     have yz2 := yf 2
     simp only [Nat.zero_add] at y2
     clear yc yf
     go_upto_region 15 with fail
     obtain ⟨w4,hw4⟩ : ∃ x,x = w3.setCell ⟨X,2,none⟩ (.int .i64 K) := ⟨_,rfl⟩
     rw [<- hw4]
     obtain ⟨p1,p2,p3⟩ := box_set (cs' := #[.int .i64 19,.int .i32 0,.int .i64 K,.string ⟨#[]⟩,.string ⟨#[]⟩,.string ⟨#[]⟩,.string ⟨#[]⟩]) HX.out hw4 rfl
     replace HX := hid p1
     replace HM3 := hid ((p2.2 w1.heap.size (by omega) (by simp; omega)).trans HM3.out)
     replace HO3 := hid (HO3.out.kptS p2 (fun g e => by simp; exact HXO.out g e))
     replace HB3 := hid (HB3.out.trans (p2.below (fun x hx => by simp at hx; omega) (by omega)))
     have hXs4 : X < w4.heap.size := by omega
     clear hw4 p1 p2 p3 y2 yz2 yl hK hXs
     clear h8i
     obtain ⟨ul,uc,uf⟩ := boxN HM3.out
     have u7 := uc 7 _ rfl
     have uz7 := uf 7
     simp only [Nat.zero_add] at u7
     clear uc uf
     obtain ⟨y0,y1,y2,y3,y4,y5,y6⟩ := z7e (boxN HX.out).2.1
     have HL := hid (rdX_lits insC_len w4 [iX 19 K] #[.int .i64 19,.int .i32 0,.int .i64 K,.string ⟨#[]⟩,.string ⟨#[]⟩,.string ⟨#[]⟩,.string ⟨#[]⟩] 31 rfl)
     have HO2 := hid (HO3.out.kptS (.of_below (below_alM w4 (.cells #[.int .i64 19,.int .i32 0,.int .i64 K,.string ⟨#[]⟩,.string ⟨#[]⟩,.string ⟨#[]⟩,.string ⟨#[]⟩] 31)) : Kpt [] w4 _) (fun _ _ => by simp))
     go_upto_region 16 with (at_builtin; refine wp_appM inf_ins shape_ins rfl _ _ rfl (w1.heap.size + 1) _ (bodyT l) rfl HO2.out w4.heap.size 0 1 1 [iX 19 K] rfl HL.out (by unfold bodyT; simp; omega) (by simp; omega) ?_; intro v3 x3 ho3 hg3 hl3; obtain ⟨p3,n3,c3,hv3⟩ := ho3.slice; subst hv3; have HO5 := hid ho3; have hHM := (hg3.block _ (by simp; omega) (fun e => by have := (HO3.out.lt _ e.symm).1; omega)).trans (((below_alM w4 _).block _ (by omega)).trans HM3.out); have HM5 := hid hHM; have hHX := (hg3.block _ (by simp; omega) (fun e => HXO.out _ e.symm rfl)).trans (((below_alM w4 _).block _ (by omega)).trans HX.out); have HX5 := hid hHX; clear hHM hHX; have HG5 := hid hg3; clear ho3 hg3 hl3; obtain ⟨xl,xc,xf⟩ := boxN HM5.out; have x7 := xc 7 _ rfl; have xz7 := xf 7; simp only [Nat.zero_add] at x7; clear xc xf)
     obtain ⟨w5,hw5⟩ : ∃ x,x = x3.setCell ⟨w1.heap.size,7,none⟩ (.slice p3 n3 c3) := ⟨_,rfl⟩
     rw [<- hw5]
     obtain ⟨p1,p2,p4⟩ := box_set (cs' := #[.string ⟨#[]⟩,.slice none 0 0,.int .i64 0,.string ⟨#[]⟩,.bool true,.bool false,.int .i64 (L : Int),.slice p3 n3 c3,.slice none 0 0]) HM5.out hw5 rfl
     have hz3 := HG5.out.size
     simp only [World.size_alloc] at hz3
     have hbg : Below w1.heap.size (w4.alloc (.cells #[.int .i64 19,.int .i32 0,.int .i64 K,.string ⟨#[]⟩,.string ⟨#[]⟩,.string ⟨#[]⟩,.string ⟨#[]⟩] 31)) x3 := ⟨HG5.out.os,HG5.out.tape,HG5.out.output,HG5.out.size,fun q hq => HG5.out.block q (by simp; omega) (fun e => by have := (HO3.out.lt _ e.symm).1; omega)⟩
     have HB5 := hid (((HB3.out.trans ((below_alM w4 _).mono (by omega))).trans hbg).trans (p2.below (fun x hx => by simp at hx; omega) (by omega)))
     have HX6 := hid ((p2.2 X (by omega) (by simp; omega)).trans HX5.out)
     have HM6 := hid p1
     have HRC : Hid (RdX 7 (sP insC) anyB w5 (.slice p3 n3 c3) (bodyT l ++ [iX 19 K])) := hid (((HO5.out.kptS p2 (fun g e => by have := (HO5.out.lt g e).1; simp; omega)).rd (sP.grow _)).step (sP.grow _) (fun _ _ _ => trivial) (fun _ _ _ => rfl) (Nat.le_refl _))
     have hn3 : n3 = l.length + 1 := by
      obtain ⟨q,c',e,-⟩ := HRC.out.len
      simp only [Value.slice.injEq] at e
      rw [e.2.1,List.length_append]
      unfold bodyT
      rw [List.length_map]
      rfl
     subst hn3
     have hXs5 : X < w5.heap.size := by omega
     clear HO5 HG5 HO2 HL HM5 HX5 p1 p2 p4 hbg hz3 hw5 xl x7 xz7 u7 uz7 ul y0 y1 y2 y3 y4 y5 y6 HM3 HX HO3 HB3 HXO
     obtain ⟨q0,q1,q2,q3,q4,q5,q6,q7,q8⟩ := z9 (boxN HM6.out).2.1
     have ql := (boxN HM6.out).1
     go_wp2_with fail
     refine (method_a _ _ _ _ _ _ _ _ _ _ _ _ _ _ _ [] (bodyT l ++ [iX 19 K]) [] anyB w5 rfl (by decide) HRC.out (RdX.nil _ _ _ _) (by omega) (by decide)).mono ?_
     rintro e6 w6 ⟨he6,hb6⟩
     have HB6 := hid (HB5.out.trans (hb6.mono HB5.out.size))
     have hm6 := (hb6.block _ ql).trans HM6.out
     have hx6 := (hb6.block _ hXs5).trans HX6.out
     clear q0 q1 q2 q3 q4 q5 q6 q7 q8 ql hb6 HM6 HX6 HB5 HRC
     obtain ⟨q0,q1,q2,q3,q4,q5,q6,q7,q8⟩ := z9 (boxN hm6).2.1
     have ql := (boxN hm6).1
     obtain ⟨y0,y1,y2,y3,y4,y5,y6⟩ := z7e (boxN hx6).2.1
     have yl := (boxN hx6).1
     clear hm6 hx6
     by_cases hKl : K < (l.length : Int) + 1
     ·have HF : findsB (L : Int) ((l.length : Int) + 1) (iX 19 K) = true := by show inB K _ = true; unfold inB; rw [decide_eq_true_eq]; omega
      have hKg : ¬ (l.length : Int) + 1 <= K := by omega
      have HA := end_ans (l := l) (L := (L : Int)) (by omega) ((end_good (l := l) (L := (L : Int)) (o := 19) (k := K) HF).trans (if_pos rfl)) (fun _ => rfl)
      rw [HA] at he6
      subst he6
      clear HA
      have h8i : (last : Int) % 8 = 4 := by omega
      go_wp2_with fail
      go_ret
      exact ⟨rfl,HBW.out.trans (HB6.out.mono HBW.out.size)⟩
     ·have HF : findsB (L : Int) ((l.length : Int) + 1) (iX 19 K) = false := by show inB K _ = false; unfold inB; rw [decide_eq_false_iff_not]; omega
      have hKg : (l.length : Int) + 1 <= K := by omega
      have HA := end_ans (l := l) (L := (L : Int)) (by omega) (end_bad HF) (fun h => absurd h (by decide))
      rw [HA] at he6
      subst he6
      clear HA
      have h8i : (last : Int) % 8 = 4 := by omega
      go_wp2_with fail
      go_ret
      exact ⟨rfl,HBW.out.trans (HB6.out.mono HBW.out.size)⟩
    ·have h8i : (last : Int) % 8 = 5 := by omega
     go_upto_region 12 with fail
     obtain ⟨w3,hw3⟩ : ∃ x,x = (wr.alloc (.cells #[.int .i64 40,.int .i64 39,.int .i64 38,.int .i64 43,.int .i64 19,.int .i64 6,.int .i64 20,.int .i64 7] 3)).alloc (.cells #[.int .i64 6,.int .i32 0,.int .i64 0,.string ⟨#[]⟩,.string ⟨#[]⟩,.string ⟨#[]⟩,.string ⟨#[]⟩] 31) := ⟨_,rfl⟩
     rw [<- hw3]
     have hb3 : Below wr.heap.size wr w3 := by rw [hw3]; exact (below_alM _ _).trans ((below_alM _ _).mono (by simp))
     have HX : Hid (w3.heap[wr.heap.size + 1]? = some (.cells #[.int .i64 6,.int .i32 0,.int .i64 0,.string ⟨#[]⟩,.string ⟨#[]⟩,.string ⟨#[]⟩,.string ⟨#[]⟩] 31 (0,0))) := hid (by rw [hw3]; have := heap_alloc_new (wr.alloc (.cells #[.int .i64 40,.int .i64 39,.int .i64 38,.int .i64 43,.int .i64 19,.int .i64 6,.int .i64 20,.int .i64 7] 3)) (.cells #[.int .i64 6,.int .i32 0,.int .i64 0,.string ⟨#[]⟩,.string ⟨#[]⟩,.string ⟨#[]⟩,.string ⟨#[]⟩] 31); rwa [World.size_alloc] at this)
     have hs3 : w3.heap.size = wr.heap.size + 2 := by rw [hw3]; simp
     have HM3 := hid ((hb3.block _ (by omega)).trans HM.out)
     have hOlt := HO.out.lt
     have HO3 := hid (HO.out.kptS (.of_below hb3 : Kpt [] wr w3) (fun _ _ => by simp))
     have HB3 := hid (HB.out.trans (hb3.mono (by omega)))
     obtain ⟨X,hX⟩ : ∃ x,wr.heap.size + 1 = x := ⟨_,rfl⟩
     rw [hX] at HX
     rw [hX]
     have hXO : ∀ g,(Value.slice pc nc cc).ownBlock = some g -> g ≠ X := fun g e => by have := (hOlt g e).2; omega
     have HXO := hid hXO
     have hMX : w1.heap.size + 1 <= X := by omega
     have hXs : X < w3.heap.size := by omega
     clear hw3 hb3 hs3 hX hOlt hXO HM HO HB hwz
     clear h8i
     obtain ⟨ul,uc,uf⟩ := boxN HM3.out
     have u7 := uc 7 _ rfl
     have uz7 := uf 7
     simp only [Nat.zero_add] at u7
     clear uc uf
     obtain ⟨y0,y1,y2,y3,y4,y5,y6⟩ := z7e (boxN HX.out).2.1
     have HL := hid (rdX_lits insC_len w3 [iX 6 0] #[.int .i64 6,.int .i32 0,.int .i64 0,.string ⟨#[]⟩,.string ⟨#[]⟩,.string ⟨#[]⟩,.string ⟨#[]⟩] 31 rfl)
     have HO2 := hid (HO3.out.kptS (.of_below (below_alM w3 (.cells #[.int .i64 6,.int .i32 0,.int .i64 0,.string ⟨#[]⟩,.string ⟨#[]⟩,.string ⟨#[]⟩,.string ⟨#[]⟩] 31)) : Kpt [] w3 _) (fun _ _ => by simp))
     go_upto_region 16 with (at_builtin; refine wp_appM inf_ins shape_ins rfl _ _ rfl (w1.heap.size + 1) _ (bodyT l) rfl HO2.out w3.heap.size 0 1 1 [iX 6 0] rfl HL.out (by unfold bodyT; simp; omega) (by simp; omega) ?_; intro v3 x3 ho3 hg3 hl3; obtain ⟨p3,n3,c3,hv3⟩ := ho3.slice; subst hv3; have HO5 := hid ho3; have hHM := (hg3.block _ (by simp; omega) (fun e => by have := (HO3.out.lt _ e.symm).1; omega)).trans (((below_alM w3 _).block _ (by omega)).trans HM3.out); have HM5 := hid hHM; have hHX := (hg3.block _ (by simp; omega) (fun e => HXO.out _ e.symm rfl)).trans (((below_alM w3 _).block _ (by omega)).trans HX.out); have HX5 := hid hHX; clear hHM hHX; have HG5 := hid hg3; clear ho3 hg3 hl3; obtain ⟨xl,xc,xf⟩ := boxN HM5.out; have x7 := xc 7 _ rfl; have xz7 := xf 7; simp only [Nat.zero_add] at x7; clear xc xf)
     obtain ⟨w5,hw5⟩ : ∃ x,x = x3.setCell ⟨w1.heap.size,7,none⟩ (.slice p3 n3 c3) := ⟨_,rfl⟩
     rw [<- hw5]
     obtain ⟨p1,p2,p4⟩ := box_set (cs' := #[.string ⟨#[]⟩,.slice none 0 0,.int .i64 0,.string ⟨#[]⟩,.bool true,.bool false,.int .i64 (L : Int),.slice p3 n3 c3,.slice none 0 0]) HM5.out hw5 rfl
     have hz3 := HG5.out.size
     simp only [World.size_alloc] at hz3
     have hbg : Below w1.heap.size (w3.alloc (.cells #[.int .i64 6,.int .i32 0,.int .i64 0,.string ⟨#[]⟩,.string ⟨#[]⟩,.string ⟨#[]⟩,.string ⟨#[]⟩] 31)) x3 := ⟨HG5.out.os,HG5.out.tape,HG5.out.output,HG5.out.size,fun q hq => HG5.out.block q (by simp; omega) (fun e => by have := (HO3.out.lt _ e.symm).1; omega)⟩
     have HB5 := hid (((HB3.out.trans ((below_alM w3 _).mono (by omega))).trans hbg).trans (p2.below (fun x hx => by simp at hx; omega) (by omega)))
     have HX6 := hid ((p2.2 X (by omega) (by simp; omega)).trans HX5.out)
     have HM6 := hid p1
     have HRC : Hid (RdX 7 (sP insC) anyB w5 (.slice p3 n3 c3) (bodyT l ++ [iX 6 0])) := hid (((HO5.out.kptS p2 (fun g e => by have := (HO5.out.lt g e).1; simp; omega)).rd (sP.grow _)).step (sP.grow _) (fun _ _ _ => trivial) (fun _ _ _ => rfl) (Nat.le_refl _))
     have hn3 : n3 = l.length + 1 := by
      obtain ⟨q,c',e,-⟩ := HRC.out.len
      simp only [Value.slice.injEq] at e
      rw [e.2.1,List.length_append]
      unfold bodyT
      rw [List.length_map]
      rfl
     subst hn3
     have hXs5 : X < w5.heap.size := by omega
     clear HO5 HG5 HO2 HL HM5 HX5 p1 p2 p4 hbg hz3 hw5 xl x7 xz7 u7 uz7 ul y0 y1 y2 y3 y4 y5 y6 HM3 HX HO3 HB3 HXO
     obtain ⟨q0,q1,q2,q3,q4,q5,q6,q7,q8⟩ := z9 (boxN HM6.out).2.1
     have ql := (boxN HM6.out).1
     go_wp2_with fail
     refine (method_a _ _ _ _ _ _ _ _ _ _ _ _ _ _ _ [] (bodyT l ++ [iX 6 0]) [] anyB w5 rfl (by decide) HRC.out (RdX.nil _ _ _ _) (by omega) (by decide)).mono ?_
     rintro e6 w6 ⟨he6,hb6⟩
     have HB6 := hid (HB5.out.trans (hb6.mono HB5.out.size))
     have hm6 := (hb6.block _ ql).trans HM6.out
     have hx6 := (hb6.block _ hXs5).trans HX6.out
     clear q0 q1 q2 q3 q4 q5 q6 q7 q8 ql hb6 HM6 HX6 HB5 HRC
     clear hm6 hx6
     have HF : findsB (L : Int) ((l.length : Int) + 1) (iX 6 0) = true := rfl
     have HA := end_ans (l := l) (L := (L : Int)) (by omega) ((end_good (l := l) (L := (L : Int)) (o := 6) (k := 0) HF).trans (if_neg (by decide))) (fun h => absurd h (by decide))
     rw [HA] at he6
     subst he6
     clear HA
     have h8i : (last : Int) % 8 = 5 := by omega
     go_wp2_with fail
     go_ret
     exact ⟨rfl,HBW.out.trans (HB6.out.mono HBW.out.size)⟩
    ·have h8i : (last : Int) % 8 = 6 := by omega
     go_upto_region 12 with fail
     obtain ⟨w3,hw3⟩ : ∃ x,x = (wr.alloc (.cells #[.int .i64 40,.int .i64 39,.int .i64 38,.int .i64 43,.int .i64 19,.int .i64 6,.int .i64 20,.int .i64 7] 3)).alloc (.cells #[.int .i64 20,.int .i32 0,.int .i64 0,.string ⟨#[]⟩,.string ⟨#[]⟩,.string ⟨#[]⟩,.string ⟨#[]⟩] 31) := ⟨_,rfl⟩
     rw [<- hw3]
     have hb3 : Below wr.heap.size wr w3 := by rw [hw3]; exact (below_alM _ _).trans ((below_alM _ _).mono (by simp))
     have HX : Hid (w3.heap[wr.heap.size + 1]? = some (.cells #[.int .i64 20,.int .i32 0,.int .i64 0,.string ⟨#[]⟩,.string ⟨#[]⟩,.string ⟨#[]⟩,.string ⟨#[]⟩] 31 (0,0))) := hid (by rw [hw3]; have := heap_alloc_new (wr.alloc (.cells #[.int .i64 40,.int .i64 39,.int .i64 38,.int .i64 43,.int .i64 19,.int .i64 6,.int .i64 20,.int .i64 7] 3)) (.cells #[.int .i64 20,.int .i32 0,.int .i64 0,.string ⟨#[]⟩,.string ⟨#[]⟩,.string ⟨#[]⟩,.string ⟨#[]⟩] 31); rwa [World.size_alloc] at this)
     have hs3 : w3.heap.size = wr.heap.size + 2 := by rw [hw3]; simp
     have HM3 := hid ((hb3.block _ (by omega)).trans HM.out)
     have hOlt := HO.out.lt
     have HO3 := hid (HO.out.kptS (.of_below hb3 : Kpt [] wr w3) (fun _ _ => by simp))
     have HB3 := hid (HB.out.trans (hb3.mono (by omega)))
     obtain ⟨X,hX⟩ : ∃ x,wr.heap.size + 1 = x := ⟨_,rfl⟩
     rw [hX] at HX
     rw [hX]
     have hXO : ∀ g,(Value.slice pc nc cc).ownBlock = some g -> g ≠ X := fun g e => by have := (hOlt g e).2; omega
     have HXO := hid hXO
     have hMX : w1.heap.size + 1 <= X := by omega
     have hXs : X < w3.heap.size := by omega
     clear hw3 hb3 hs3 hX hOlt hXO HM HO HB hwz
     obtain ⟨K,hK,hK0,hK1⟩ : ∃ x : Int,bits .and .i64 k 31 = x /\ 0 <= x /\ x <= 31 := ⟨k % 32,and31 k,by omega,by omega⟩
     obtain ⟨yl,yc,yf⟩ := boxN HX.out
     have y2 := yc 2 _ rfl
     have yz2 := yf 2
     simp only [Nat.zero_add] at y2
     clear yc yf
     go_upto_region 15 with fail
     obtain ⟨w4,hw4⟩ : ∃ x,x = w3.setCell ⟨X,2,none⟩ (.int .i64 K) := ⟨_,rfl⟩
     rw [<- hw4]
     obtain ⟨p1,p2,p3⟩ := box_set (cs' := #[.int .i64 20,.int .i32 0,.int .i64 K,.string ⟨#[]⟩,.string ⟨#[]⟩,.string ⟨#[]⟩,.string ⟨#[]⟩]) HX.out hw4 rfl
     replace HX := hid p1
     replace HM3 := hid ((p2.2 w1.heap.size (by omega) (by simp; omega)).trans HM3.out)
     replace HO3 := hid (HO3.out.kptS p2 (fun g e => by simp; exact HXO.out g e))
     replace HB3 := hid (HB3.out.trans (p2.below (fun x hx => by simp at hx; omega) (by omega)))
     have hXs4 : X < w4.heap.size := by omega
     clear hw4 p1 p2 p3 y2 yz2 yl hK hXs
     clear h8i
     obtain ⟨ul,uc,uf⟩ := boxN HM3.out
     have u7 := uc 7 _ rfl
     have uz7 := uf 7
     simp only [Nat.zero_add] at u7
     clear uc uf
     obtain ⟨y0,y1,y2,y3,y4,y5,y6⟩ := z7e (boxN HX.out).2.1
     have HL := hid (rdX_lits insC_len w4 [iX 20 K] #[.int .i64 20,.int .i32 0,.int .i64 K,.string ⟨#[]⟩,.string ⟨#[]⟩,.string ⟨#[]⟩,.string ⟨#[]⟩] 31 rfl)
     have HO2 := hid (HO3.out.kptS (.of_below (below_alM w4 (.cells #[.int .i64 20,.int .i32 0,.int .i64 K,.string ⟨#[]⟩,.string ⟨#[]⟩,.string ⟨#[]⟩,.string ⟨#[]⟩] 31)) : Kpt [] w4 _) (fun _ _ => by simp))
     go_upto_region 16 with (at_builtin; refine wp_appM inf_ins shape_ins rfl _ _ rfl (w1.heap.size + 1) _ (bodyT l) rfl HO2.out w4.heap.size 0 1 1 [iX 20 K] rfl HL.out (by unfold bodyT; simp; omega) (by simp; omega) ?_; intro v3 x3 ho3 hg3 hl3; obtain ⟨p3,n3,c3,hv3⟩ := ho3.slice; subst hv3; have HO5 := hid ho3; have hHM := (hg3.block _ (by simp; omega) (fun e => by have := (HO3.out.lt _ e.symm).1; omega)).trans (((below_alM w4 _).block _ (by omega)).trans HM3.out); have HM5 := hid hHM; have hHX := (hg3.block _ (by simp; omega) (fun e => HXO.out _ e.symm rfl)).trans (((below_alM w4 _).block _ (by omega)).trans HX.out); have HX5 := hid hHX; clear hHM hHX; have HG5 := hid hg3; clear ho3 hg3 hl3; obtain ⟨xl,xc,xf⟩ := boxN HM5.out; have x7 := xc 7 _ rfl; have xz7 := xf 7; simp only [Nat.zero_add] at x7; clear xc xf)
     obtain ⟨w5,hw5⟩ : ∃ x,x = x3.setCell ⟨w1.heap.size,7,none⟩ (.slice p3 n3 c3) := ⟨_,rfl⟩
     rw [<- hw5]
     obtain ⟨p1,p2,p4⟩ := box_set (cs' := #[.string ⟨#[]⟩,.slice none 0 0,.int .i64 0,.string ⟨#[]⟩,.bool true,.bool false,.int .i64 (L : Int),.slice p3 n3 c3,.slice none 0 0]) HM5.out hw5 rfl
     have hz3 := HG5.out.size
     simp only [World.size_alloc] at hz3
     have hbg : Below w1.heap.size (w4.alloc (.cells #[.int .i64 20,.int .i32 0,.int .i64 K,.string ⟨#[]⟩,.string ⟨#[]⟩,.string ⟨#[]⟩,.string ⟨#[]⟩] 31)) x3 := ⟨HG5.out.os,HG5.out.tape,HG5.out.output,HG5.out.size,fun q hq => HG5.out.block q (by simp; omega) (fun e => by have := (HO3.out.lt _ e.symm).1; omega)⟩
     have HB5 := hid (((HB3.out.trans ((below_alM w4 _).mono (by omega))).trans hbg).trans (p2.below (fun x hx => by simp at hx; omega) (by omega)))
     have HX6 := hid ((p2.2 X (by omega) (by simp; omega)).trans HX5.out)
     have HM6 := hid p1
     have HRC : Hid (RdX 7 (sP insC) anyB w5 (.slice p3 n3 c3) (bodyT l ++ [iX 20 K])) := hid (((HO5.out.kptS p2 (fun g e => by have := (HO5.out.lt g e).1; simp; omega)).rd (sP.grow _)).step (sP.grow _) (fun _ _ _ => trivial) (fun _ _ _ => rfl) (Nat.le_refl _))
     have hn3 : n3 = l.length + 1 := by
      obtain ⟨q,c',e,-⟩ := HRC.out.len
      simp only [Value.slice.injEq] at e
      rw [e.2.1,List.length_append]
      unfold bodyT
      rw [List.length_map]
      rfl
     subst hn3
     have hXs5 : X < w5.heap.size := by omega
     clear HO5 HG5 HO2 HL HM5 HX5 p1 p2 p4 hbg hz3 hw5 xl x7 xz7 u7 uz7 ul y0 y1 y2 y3 y4 y5 y6 HM3 HX HO3 HB3 HXO
     obtain ⟨q0,q1,q2,q3,q4,q5,q6,q7,q8⟩ := z9 (boxN HM6.out).2.1
     have ql := (boxN HM6.out).1
     go_wp2_with fail
     refine (method_a _ _ _ _ _ _ _ _ _ _ _ _ _ _ _ [] (bodyT l ++ [iX 20 K]) [] anyB w5 rfl (by decide) HRC.out (RdX.nil _ _ _ _) (by omega) (by decide)).mono ?_
     rintro e6 w6 ⟨he6,hb6⟩
     have HB6 := hid (HB5.out.trans (hb6.mono HB5.out.size))
     have hm6 := (hb6.block _ ql).trans HM6.out
     have hx6 := (hb6.block _ hXs5).trans HX6.out
     clear q0 q1 q2 q3 q4 q5 q6 q7 q8 ql hb6 HM6 HX6 HB5 HRC
     obtain ⟨q0,q1,q2,q3,q4,q5,q6,q7,q8⟩ := z9 (boxN hm6).2.1
     have ql := (boxN hm6).1
     obtain ⟨y0,y1,y2,y3,y4,y5,y6⟩ := z7e (boxN hx6).2.1
     have yl := (boxN hx6).1
     clear hm6 hx6
     by_cases hKl : K < (l.length : Int) + 1
     ·have HF : findsB (L : Int) ((l.length : Int) + 1) (iX 20 K) = true := by show inB K _ = true; unfold inB; rw [decide_eq_true_eq]; omega
      have hKg : ¬ (l.length : Int) + 1 <= K := by omega
      have HA := end_ans (l := l) (L := (L : Int)) (by omega) ((end_good (l := l) (L := (L : Int)) (o := 20) (k := K) HF).trans (if_neg (by decide))) (fun h => absurd h (by decide))
      rw [HA] at he6
      subst he6
      clear HA
      have h8i : (last : Int) % 8 = 6 := by omega
      go_wp2_with fail
      go_ret
      exact ⟨rfl,HBW.out.trans (HB6.out.mono HBW.out.size)⟩
     ·have HF : findsB (L : Int) ((l.length : Int) + 1) (iX 20 K) = false := by show inB K _ = false; unfold inB; rw [decide_eq_false_iff_not]; omega
      have hKg : (l.length : Int) + 1 <= K := by omega
      have HA := end_ans (l := l) (L := (L : Int)) (by omega) (end_bad HF) (fun h => absurd h (by decide))
      rw [HA] at he6
      subst he6
      clear HA
      have h8i : (last : Int) % 8 = 6 := by omega
      go_wp2_with fail
      go_ret
      exact ⟨rfl,HBW.out.trans (HB6.out.mono HBW.out.size)⟩
    ·have h8i : (last : Int) % 8 = 7 := by omega
     go_upto_region 12 with fail
     obtain ⟨w3,hw3⟩ : ∃ x,x = (wr.alloc (.cells #[.int .i64 40,.int .i64 39,.int .i64 38,.int .i64 43,.int .i64 19,.int .i64 6,.int .i64 20,.int .i64 7] 3)).alloc (.cells #[.int .i64 7,.int .i32 0,.int .i64 0,.string ⟨#[]⟩,.string ⟨#[]⟩,.string ⟨#[]⟩,.string ⟨#[]⟩] 31) := ⟨_,rfl⟩
     rw [<- hw3]
     have hb3 : Below wr.heap.size wr w3 := by rw [hw3]; exact (below_alM _ _).trans ((below_alM _ _).mono (by simp))
     have HX : Hid (w3.heap[wr.heap.size + 1]? = some (.cells #[.int .i64 7,.int .i32 0,.int .i64 0,.string ⟨#[]⟩,.string ⟨#[]⟩,.string ⟨#[]⟩,.string ⟨#[]⟩] 31 (0,0))) := hid (by rw [hw3]; have := heap_alloc_new (wr.alloc (.cells #[.int .i64 40,.int .i64 39,.int .i64 38,.int .i64 43,.int .i64 19,.int .i64 6,.int .i64 20,.int .i64 7] 3)) (.cells #[.int .i64 7,.int .i32 0,.int .i64 0,.string ⟨#[]⟩,.string ⟨#[]⟩,.string ⟨#[]⟩,.string ⟨#[]⟩] 31); rwa [World.size_alloc] at this)
     have hs3 : w3.heap.size = wr.heap.size + 2 := by rw [hw3]; simp
     have HM3 := hid ((hb3.block _ (by omega)).trans HM.out)
     have hOlt := HO.out.lt
     have HO3 := hid (HO.out.kptS (.of_below hb3 : Kpt [] wr w3) (fun _ _ => by simp))
     have HB3 := hid (HB.out.trans (hb3.mono (by omega)))
     obtain ⟨X,hX⟩ : ∃ x,wr.heap.size + 1 = x := ⟨_,rfl⟩
     rw [hX] at HX
     rw [hX]
     have hXO : ∀ g,(Value.slice pc nc cc).ownBlock = some g -> g ≠ X := fun g e => by have := (hOlt g e).2; omega
     have HXO := hid hXO
     have hMX : w1.heap.size + 1 <= X := by omega
     have hXs : X < w3.heap.size := by omega
     clear hw3 hb3 hs3 hX hOlt hXO HM HO HB hwz
     clear h8i
     obtain ⟨ul,uc,uf⟩ := boxN HM3.out
     have u7 := uc 7 _ rfl
     have uz7 := uf 7
     simp only [Nat.zero_add] at u7
     clear uc uf
     obtain ⟨y0,y1,y2,y3,y4,y5,y6⟩ := z7e (boxN HX.out).2.1
     have HL := hid (rdX_lits insC_len w3 [iX 7 0] #[.int .i64 7,.int .i32 0,.int .i64 0,.string ⟨#[]⟩,.string ⟨#[]⟩,.string ⟨#[]⟩,.string ⟨#[]⟩] 31 rfl)
     have HO2 := hid (HO3.out.kptS (.of_below (below_alM w3 (.cells #[.int .i64 7,.int .i32 0,.int .i64 0,.string ⟨#[]⟩,.string ⟨#[]⟩,.string ⟨#[]⟩,.string ⟨#[]⟩] 31)) : Kpt [] w3 _) (fun _ _ => by simp))
     go_upto_region 16 with (at_builtin; refine wp_appM inf_ins shape_ins rfl _ _ rfl (w1.heap.size + 1) _ (bodyT l) rfl HO2.out w3.heap.size 0 1 1 [iX 7 0] rfl HL.out (by unfold bodyT; simp; omega) (by simp; omega) ?_; intro v3 x3 ho3 hg3 hl3; obtain ⟨p3,n3,c3,hv3⟩ := ho3.slice; subst hv3; have HO5 := hid ho3; have hHM := (hg3.block _ (by simp; omega) (fun e => by have := (HO3.out.lt _ e.symm).1; omega)).trans (((below_alM w3 _).block _ (by omega)).trans HM3.out); have HM5 := hid hHM; have hHX := (hg3.block _ (by simp; omega) (fun e => HXO.out _ e.symm rfl)).trans (((below_alM w3 _).block _ (by omega)).trans HX.out); have HX5 := hid hHX; clear hHM hHX; have HG5 := hid hg3; clear ho3 hg3 hl3; obtain ⟨xl,xc,xf⟩ := boxN HM5.out; have x7 := xc 7 _ rfl; have xz7 := xf 7; simp only [Nat.zero_add] at x7; clear xc xf)
     obtain ⟨w5,hw5⟩ : ∃ x,x = x3.setCell ⟨w1.heap.size,7,none⟩ (.slice p3 n3 c3) := ⟨_,rfl⟩
     rw [<- hw5]
     obtain ⟨p1,p2,p4⟩ := box_set (cs' := #[.string ⟨#[]⟩,.slice none 0 0,.int .i64 0,.string ⟨#[]⟩,.bool true,.bool false,.int .i64 (L : Int),.slice p3 n3 c3,.slice none 0 0]) HM5.out hw5 rfl
     have hz3 := HG5.out.size
     simp only [World.size_alloc] at hz3
     have hbg : Below w1.heap.size (w3.alloc (.cells #[.int .i64 7,.int .i32 0,.int .i64 0,.string ⟨#[]⟩,.string ⟨#[]⟩,.string ⟨#[]⟩,.string ⟨#[]⟩] 31)) x3 := ⟨HG5.out.os,HG5.out.tape,HG5.out.output,HG5.out.size,fun q hq => HG5.out.block q (by simp; omega) (fun e => by have := (HO3.out.lt _ e.symm).1; omega)⟩
     have HB5 := hid (((HB3.out.trans ((below_alM w3 _).mono (by omega))).trans hbg).trans (p2.below (fun x hx => by simp at hx; omega) (by omega)))
     have HX6 := hid ((p2.2 X (by omega) (by simp; omega)).trans HX5.out)
     have HM6 := hid p1
     have HRC : Hid (RdX 7 (sP insC) anyB w5 (.slice p3 n3 c3) (bodyT l ++ [iX 7 0])) := hid (((HO5.out.kptS p2 (fun g e => by have := (HO5.out.lt g e).1; simp; omega)).rd (sP.grow _)).step (sP.grow _) (fun _ _ _ => trivial) (fun _ _ _ => rfl) (Nat.le_refl _))
     have hn3 : n3 = l.length + 1 := by
      obtain ⟨q,c',e,-⟩ := HRC.out.len
      simp only [Value.slice.injEq] at e
      rw [e.2.1,List.length_append]
      unfold bodyT
      rw [List.length_map]
      rfl
     subst hn3
     have hXs5 : X < w5.heap.size := by omega
     clear HO5 HG5 HO2 HL HM5 HX5 p1 p2 p4 hbg hz3 hw5 xl x7 xz7 u7 uz7 ul y0 y1 y2 y3 y4 y5 y6 HM3 HX HO3 HB3 HXO
     obtain ⟨q0,q1,q2,q3,q4,q5,q6,q7,q8⟩ := z9 (boxN HM6.out).2.1
     have ql := (boxN HM6.out).1
     go_wp2_with fail
     refine (method_a _ _ _ _ _ _ _ _ _ _ _ _ _ _ _ [] (bodyT l ++ [iX 7 0]) [] anyB w5 rfl (by decide) HRC.out (RdX.nil _ _ _ _) (by omega) (by decide)).mono ?_
     rintro e6 w6 ⟨he6,hb6⟩
     have HB6 := hid (HB5.out.trans (hb6.mono HB5.out.size))
     have hm6 := (hb6.block _ ql).trans HM6.out
     have hx6 := (hb6.block _ hXs5).trans HX6.out
     clear q0 q1 q2 q3 q4 q5 q6 q7 q8 ql hb6 HM6 HX6 HB5 HRC
     clear hm6 hx6
     have HF : findsB (L : Int) ((l.length : Int) + 1) (iX 7 0) = true := rfl
     have HA := end_ans (l := l) (L := (L : Int)) (by omega) ((end_good (l := l) (L := (L : Int)) (o := 7) (k := 0) HF).trans (if_neg (by decide))) (fun h => absurd h (by decide))
     rw [HA] at he6
     subst he6
     clear HA
     have h8i : (last : Int) % 8 = 7 := by omega
     go_wp2_with fail
     go_ret
     exact ⟨rfl,HBW.out.trans (HB6.out.mono HBW.out.size)⟩
end Go.Proofs.YtofnbapnmhibaaaGreat.A
