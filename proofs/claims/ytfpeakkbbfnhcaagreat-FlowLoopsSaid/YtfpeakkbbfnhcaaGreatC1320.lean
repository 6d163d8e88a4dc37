/- Texts that the proof is made of, joined. No condition. -/
import Derived.Test.YtfpeakkbbfnhcaaGreatC1318
import Derived.Test.YtfpeakkbbfnhcaaGreatC1319
import Derived.Test.YtfpeakkbbfnhcaaGreatC13H
set_option linter.unusedVariables false
set_option linter.unusedSimpArgs false
set_option maxRecDepth 100000
set_option maxHeartbeats 16000000
namespace Go.Proofs.YtfpeakkbbfnhcaaGreat.R
open Go.RowKit Go.Proofs.YtfpeakkbbfnhcaaGreat.D Go.Proofs.YtfpeakkbbfnhcaaGreat.O Go.Proofs.YtfpeakkbbfnhcaaGreat.A
def UC (W : World) (g gy : Nat) (p : Nat) (c : ByteArray) (x0 x1 x2 : Value) : Prop := (gy < W.heap.size /\ W.cell? ⟨gy,2,none⟩ = some (.int .i64 (p : Int)) /\ W.cell? ⟨gy,3,none⟩ = some (.string c)) /\ (g < W.heap.size /\ W.cell? ⟨g,0,none⟩ = some x0 /\ W.cell? ⟨g,1,none⟩ = some x1 /\ W.cell? ⟨g,2,none⟩ = some x2)
theorem cell_kp {ok : Nat -> Prop} {W W' : World} {b o : Nat} {v : Value} (h : W.cell? ⟨b,o,none⟩ = some v) (hl : b < W.heap.size) (hk : S.Kp ok W W') (hn : ¬ ok b) : W'.cell? ⟨b,o,none⟩ = some v := by
 rw [<- h]
 simp only [World.cell?]
 rw [hk.2 b hl hn]
theorem UC.bel {W W' : World} {g gy p : Nat} {c : ByteArray} {x0 x1 x2 : Value} (h : UC W g gy p c x0 x1 x2) (hb : Below W.heap.size W W') : UC W' g gy p c x0 x1 x2 :=
 ⟨⟨Nat.lt_of_lt_of_le h.1.1 hb.size,(hb.cell h.1.1).trans h.1.2.1,(hb.cell h.1.1).trans h.1.2.2⟩,c3_b h.2 hb⟩
theorem UC.kp {ok : Nat -> Prop} {W W' : World} {g gy p : Nat} {c : ByteArray} {x0 x1 x2 : Value} (h : UC W g gy p c x0 x1 x2) (hk : S.Kp ok W W') (h1 : ¬ ok g) (h2 : ¬ ok gy) : UC W' g gy p c x0 x1 x2 :=
 ⟨⟨Nat.lt_of_lt_of_le h.1.1 hk.size,cell_kp h.1.2.1 h.1.1 hk h2,cell_kp h.1.2.2 h.1.1 hk h2⟩,Nat.lt_of_lt_of_le h.2.1 hk.size,cell_kp h.2.2.1 h.2.1 hk h1,cell_kp h.2.2.2.1 h.2.1 hk h1,cell_kp h.2.2.2.2 h.2.1 hk h1⟩
theorem c3_kp2 {ok : Nat -> Prop} {W W' : World} {g : Nat} {x0 x1 x2 : Value} (h : g < W.heap.size /\ W.cell? ⟨g,0,none⟩ = some x0 /\ W.cell? ⟨g,1,none⟩ = some x1 /\ W.cell? ⟨g,2,none⟩ = some x2) (hk : S.Kp ok W W') (hn : ¬ ok g) : g < W'.heap.size /\ W'.cell? ⟨g,0,none⟩ = some x0 /\ W'.cell? ⟨g,1,none⟩ = some x1 /\ W'.cell? ⟨g,2,none⟩ = some x2 :=
 ⟨Nat.lt_of_lt_of_le h.1 hk.size,cell_kp h.2.1 h.1 hk hn,cell_kp h.2.2.1 h.1 hk hn,cell_kp h.2.2.2 h.1 hk hn⟩
theorem rd_kp {α : Type} {sz : Nat} {c : α -> List Value} {ok okr : Nat -> Prop} {W W' : World} {v : Value} {L : List α} (h : RdX sz (sP c) okr W v L) (hk : S.Kp ok W W') (hn : ∀ b,okr b -> b < W.heap.size -> ¬ ok b) : RdX sz (sP c) okr W' v L := h.step (sP.grow _) (fun _ h _ => h) (fun b hb hl => hk.2 b hl (hn b hb hl)) hk.size
theorem intos_cons {T : List Sk} {f : Fr} {a : Int} {l : List (Fr × Int)} {s : Flw} {r1 : Flw × Int} (h : intosP T ((f,a) :: l) s = some r1) : ∃ p : Nat,a = (p : Int) /\ p < s.1.length /\ ∃ r,intoN T s f p = some r /\ (r.2 = 0 /\ intosP T l r.1 = some r1 ∨ ¬ r.2 = 0 /\ r1 = r) := by
 unfold intosP intoP at h
 by_cases hp : 0 <= a /\ a < (s.1.length : Int)
 ·rw [if_pos hp] at h
  obtain ⟨p,rfl⟩ : ∃ p : Nat,a = (p : Int) := ⟨a.toNat,by omega⟩
  refine ⟨p,rfl,by omega,?_⟩
  rw [show ((p : Int)).toNat = p by omega] at h
  cases hr : intoN T s f p with
  | none => rw [hr] at h; cases h
  | some r =>
   rw [hr] at h
   dsimp only at h
   refine ⟨r,rfl,?_⟩
   by_cases h0 : r.2 = 0
   ·rw [if_neg (by simpa using h0)] at h
    exact .inl ⟨h0,h⟩
   ·rw [if_pos h0] at h
    exact .inr ⟨h0,(Option.some.inj h).symm⟩
 ·rw [if_neg hp] at h
  cases h
def SC (W : World) (g gw cb co a tb : Nat) (x0 x1 x2 : Value) (m : Mth) (pp pc ph : Option Addr) (np cp nc cc nh ch : Nat) (x : Ins) : Prop :=
 (g < W.heap.size /\ W.cell? ⟨g,0,none⟩ = some x0 /\ W.cell? ⟨g,1,none⟩ = some x1 /\ W.cell? ⟨g,2,none⟩ = some x2) /\
 (gw < W.heap.size /\ W.cell? ⟨gw,0,none⟩ = some (.pointer (some ⟨tb,0,none⟩)) /\ W.cell? ⟨gw,1,none⟩ = some (.string m.name) /\ W.cell? ⟨gw,2,none⟩ = some (.slice pp np cp) /\ W.cell? ⟨gw,3,none⟩ = some (.int .i64 m.ret.1) /\ W.cell? ⟨gw,4,none⟩ = some (.string m.ret.2) /\ W.cell? ⟨gw,5,none⟩ = some (.bool m.st) /\ W.cell? ⟨gw,6,none⟩ = some (.bool m.ab) /\ W.cell? ⟨gw,7,none⟩ = some (.int .i64 m.locals) /\ W.cell? ⟨gw,8,none⟩ = some (.slice pc nc cc) /\ W.cell? ⟨gw,9,none⟩ = some (.slice ph nh ch)) /\
 (cb < W.heap.size /\ W.cell? ⟨cb,co + a * 7,none⟩ = some (.int .i64 x.1) /\ W.cell? ⟨cb,co + a * 7 + 1,none⟩ = some (.int .i32 x.2.1) /\ W.cell? ⟨cb,co + a * 7 + 2,none⟩ = some (.int .i64 x.2.2.1) /\ W.cell? ⟨cb,co + a * 7 + 3,none⟩ = some (.string x.2.2.2.1) /\ W.cell? ⟨cb,co + a * 7 + 4,none⟩ = some (.string x.2.2.2.2.1) /\ W.cell? ⟨cb,co + a * 7 + 5,none⟩ = some (.string x.2.2.2.2.2.1) /\ W.cell? ⟨cb,co + a * 7 + 6,none⟩ = some (.string x.2.2.2.2.2.2))
theorem SC.to {W W' : World} {g gw cb co a tb : Nat} {x0 x1 x2 : Value} {m : Mth} {pp pc ph : Option Addr} {np cp nc cc nh ch : Nat} {x : Ins} (h : SC W g gw cb co a tb x0 x1 x2 m pp pc ph np cp nc cc nh ch x) (hs : W.heap.size <= W'.heap.size) (hk : ∀ b,b = g ∨ b = gw ∨ b = cb -> b < W.heap.size -> W'.heap[b]? = W.heap[b]?) : SC W' g gw cb co a tb x0 x1 x2 m pp pc ph np cp nc cc nh ch x := by
 obtain ⟨⟨a1,a2,a3,a4⟩,⟨b1,b2,b3,b4,b5,b6,b7,b8,b9,b10,b11⟩,c1,c2,c3,c4,c5,c6,c7,c8⟩ := h
 have kg := hk g (.inl rfl) a1
 have kw := hk gw (.inr (.inl rfl)) b1
 have kc := hk cb (.inr (.inr rfl)) c1
 have cc' : ∀ b o v,W'.heap[b]? = W.heap[b]? -> W.cell? ⟨b,o,none⟩ = some v -> W'.cell? ⟨b,o,none⟩ = some v := fun b o v e hc => by
  rw [<- hc]
  simp only [World.cell?]
  rw [e]
 exact ⟨⟨Nat.lt_of_lt_of_le a1 hs,cc' _ _ _ kg a2,cc' _ _ _ kg a3,cc' _ _ _ kg a4⟩,⟨Nat.lt_of_lt_of_le b1 hs,cc' _ _ _ kw b2,cc' _ _ _ kw b3,cc' _ _ _ kw b4,cc' _ _ _ kw b5,cc' _ _ _ kw b6,cc' _ _ _ kw b7,cc' _ _ _ kw b8,cc' _ _ _ kw b9,cc' _ _ _ kw b10,cc' _ _ _ kw b11⟩,Nat.lt_of_lt_of_le c1 hs,cc' _ _ _ kc c2,cc' _ _ _ kc c3,cc' _ _ _ kc c4,cc' _ _ _ kc c5,cc' _ _ _ kc c6,cc' _ _ _ kc c7,cc' _ _ _ kc c8⟩
theorem SC.bel {W W' : World} {g gw cb co a tb : Nat} {x0 x1 x2 : Value} {m : Mth} {pp pc ph : Option Addr} {np cp nc cc nh ch : Nat} {x : Ins} (h : SC W g gw cb co a tb x0 x1 x2 m pp pc ph np cp nc cc nh ch x) (hb : Below W.heap.size W W') : SC W' g gw cb co a tb x0 x1 x2 m pp pc ph np cp nc cc nh ch x := h.to hb.size (fun b _ hl => hb.block b hl)
theorem caught_sz {f : Fr} {c : ByteArray} (h : szB f = true) (hc : c.size <= 1000) : szB (caughtP f c) = true := by
 unfold szB caughtP at *
 simp only [Bool.and_eq_true,decide_eq_true_eq,List.all_cons,List.all_nil,List.length_cons,List.length_nil] at h ⊢
 exact ⟨h.1,⟨hc,trivial⟩,h.2.2.1,by omega⟩
theorem takeUp_w (okt : Nat -> Prop) (w0 : World) (okW : Nat -> Prop) (gw fb wb tb : Nat) (K : List Cls) (m : Mth) (pp pc ph : Option Addr) (np cp nc cc nh ch : Nat) (s : Flw) (a : Nat) (R : Flw × Int) (w : World)
  (ht : TrN w0 okt (.pointer (some ⟨tb,0,none⟩)) K) (hfw : ∀ c ∈ K,FewC c) (hc : RdX 7 (sP insC) anyB w0 (.slice pc nc cc) m.code) (hh : RdX 4 (sP hndC) anyB w0 (.slice ph nh ch) m.hs)
  (hz : m.ret.2.size <= 1000 /\ m.code.length <= 1000 /\ m.hs.length <= 100 /\ (∀ x ∈ m.hs,x.2.2.2.size <= 1000) /\ (∀ x ∈ m.code,x.2.2.2.2.1.size <= 1000)) (hok : okCode m.code = true)
  (h : FlI w0 okW w gw fb wb tb m pp pc ph np cp nc cc nh ch s) (ha : a < nc) (hR : upP (K.map skOf) m.ret m.code m.hs s a = some R) :
  Calls Tryz.prog 42 #[.pointer (some ⟨gw,0,none⟩),.int .i64 (a : Int)] w fun e w' => e = .returned (.int .i64 R.2) /\ ∃ okA : Nat -> Prop,FlI w0 okA w' gw fb wb tb m pp pc ph np cp nc cc nh ch R.1 := by
 have hnc : nc = m.code.length := by obtain ⟨p',c',e,-⟩ := hc.len; simp only [Value.slice.injEq] at e; exact e.2.1
 have hnh : nh = m.hs.length := by obtain ⟨p',c',e,-⟩ := hh.len; simp only [Value.slice.injEq] at e; exact e.2.1
 have hln : s.1.length = nc := h.2.2.2.2.1
 obtain ⟨f,hf⟩ : ∃ f,s.1[a]? = some f := ⟨_,List.getElem?_eq_getElem (by omega)⟩
 obtain ⟨x,hx⟩ : ∃ x,m.code[a]? = some x := ⟨_,List.getElem?_eq_getElem (by omega)⟩
 have HFZ : Hid (szB f = true) := hid (h.2.2.2.1 f (List.mem_of_getElem? hf))
 have hgd : s.1.getD a noFr = f := by rw [List.getD_eq_getElem?_getD,hf]; rfl
 have hxd : m.code.getD a noIns = x := by rw [List.getD_eq_getElem?_getD,hx]; rfl
 obtain ⟨T,hT⟩ : ∃ z,K.map skOf = z := ⟨_,rfl⟩
 unfold upP at hR
 rw [hgd,hxd,hT] at hR
 have HTT := hid hT
 obtain ⟨KS,hKS⟩ : ∃ z,hndsN m.hs (a : Int) = z := ⟨_,rfl⟩
 have HKS : Hid (hndsW m.code m.hs (a : Int) = KS.map fun (n : Nat) => (n : Int)) := hid (by unfold hndsW; rw [if_pos ⟨by omega,by omega⟩,hKS])
 have HKL : Hid (∀ k ∈ KS,k < m.hs.length) := hid (by rw [<- hKS]; unfold hndsN; intro k hk; exact List.mem_range.1 (List.mem_filter.1 hk).1)
 have HKN : Hid (KS.length <= 100) := hid (by rw [<- hKS]; have := hnds_len m.hs (a : Int) m.hs.length; rw [List.length_map] at this; exact Nat.le_trans this hz.2.2.1)
 rw [hKS] at hR
 clear hKS hgd hxd
 obtain ⟨ql,hql⟩ : ∃ z,intosP T (KS.map fun k => (caughtP f (m.hs.getD k noHnd).2.2.2,(m.hs.getD k noHnd).2.2.1)) s = z := ⟨_,rfl⟩
 rw [hql] at hR
 cases ql with
 | none => cases hR
 | some r1 =>
 dsimp only at hR
 have HR := hid hR
 have HQ := hid hql
 obtain ⟨pl,cl,ps,cs,hfl,y0,y1,y2,hro⟩ := h.2.1.at hf
 have HT := hid ht
 have HFW := hid hfw
 have HI := hid h.narrow
 have HC := hid hc
 have HH := hid hh
 have HSZ := hid hz
 have HOK := hid hok
 have HA := hid ha
 have HX := hid hx
 have HNC : Hid (nc = m.code.length /\ nh = m.hs.length) := hid ⟨hnc,hnh⟩
 have HFB : Hid (fb < w.heap.size /\ gw < w.heap.size /\ w0.heap.size <= w.heap.size) := hid ⟨hfl,h.cells.1,h.2.2.2.2.2.2.2.2.size⟩
 obtain ⟨hgl,⟨c0,c10,c11⟩,c1,c2,c3,c4,c5,c6,c7,c8,c9⟩ := h.cells
 obtain ⟨okN,hokN⟩ : ∃ z,z = fun b => okW b /\ b < w.heap.size := ⟨_,rfl⟩
 have HON : Hid (∀ b,okN b -> b < w.heap.size) := hid (fun b hb => by rw [hokN] at hb; exact hb.2)
 have HV : Hid (RdO (fun b => ¬ okN b /\ b ≠ fb) w (.agg #[.bool f.1,.slice pl f.2.1.length cl,.slice ps f.2.2.length cs]) f) := hid (hro.step (fun b hb _ => ⟨fun hx => hb.1 (by rw [hokN] at hx; exact hx.1),hb.2.1⟩) (fun _ _ _ => rfl) (Nat.le_refl _))
 rw [<- hokN] at HI
 have a0 : (0 : Int) <= (a : Int) := by omega
 have a1 : (a : Int) < (nc : Int) := by omega
 have a2 : (a : Int).toNat = a := by omega
 clear hR hql ht hfw h hc hh hz hok ha hx hnc hnh hln hf hro hokN hT
 go_enter Tryz.func42,Tryz.ntmps42
 go_upto_region 2 with fail
 obtain ⟨wn,hwn⟩ : ∃ z,z = w.alloc (.cells #[.bool f.1,.slice pl f.2.1.length cl,.slice ps f.2.2.length cs] 61) := ⟨_,rfl⟩
 have hbn : Below w.heap.size w wn := by rw [hwn]; exact below_alR _ _
 have HG3 : Hid (w.heap.size < wn.heap.size /\ wn.cell? ⟨w.heap.size,0,none⟩ = some (.bool f.1) /\ wn.cell? ⟨w.heap.size,1,none⟩ = some (.slice pl f.2.1.length cl) /\ wn.cell? ⟨w.heap.size,2,none⟩ = some (.slice ps f.2.2.length cs)) := hid (c3_at (by rw [hwn]; exact heap_alloc_new _ _))
 rw [<- hwn]
 replace HI := hid (HI.out.bel hbn)
 replace HV := hid (HV.out.step (fun _ h _ => h) (.of_below hbn) hbn.size)
 have HWN : Hid (w.heap.size < wn.heap.size) := hid HG3.out.1
 obtain ⟨g,hg⟩ : ∃ z,w.heap.size = z := ⟨_,rfl⟩
 rw [hg] at HG3 HFB HON HWN ⊢
 clear hbn hwn hg hgl c0 c10 c11 c1 c2 c3 c4 c5 c6 c7 c8 c9 hfl y0 y1 y2
 obtain ⟨hgl,⟨c0,c10,c11⟩,c1,c2,c3,c4,c5,c6,c7,c8,c9⟩ := HI.out.cells
 go_wp2_with fail
 clear hgl c0 c10 c11 c1 c2 c3 c4 c5 c6 c7 c8 c9
 refine (Handlers_w m pp pc ph np cp nc cc nh ch (a : Int) wn (HC.out.any (sP.grow _) HI.out.2.2.2.2.2.2.2.2) (HH.out.any (sP.grow _) HI.out.2.2.2.2.2.2.2.2) ⟨HSZ.out.2.1,HSZ.out.2.2.1⟩).mono ?_
 rw [HKS.out,List.length_map]
 rintro e w1 ⟨pk,ck,rfl,hrd,hbn⟩
 have HKR : Hid (RdX 1 (sP intC) (fun b => wn.heap.size <= b /\ b < w1.heap.size) w1 (.slice pk KS.length ck) (KS.map fun (n : Nat) => (n : Int))) := hid (hrd.step (sP.grow _) (fun b hb hl => ⟨hb,hl⟩) (fun _ _ _ => rfl) (Nat.le_refl _))
 replace HI := hid (HI.out.bel hbn)
 replace HV := hid (HV.out.step (fun _ h _ => h) (.of_below hbn) hbn.size)
 replace HG3 := hid (c3_b HG3.out hbn)
 have HW1 : Hid (wn.heap.size <= w1.heap.size) := hid hbn.size
 clear hrd hbn
 go_wp2_with fail
 go_loopw [29] (fun v wr => ∃ (i : Nat) (okA : Nat -> Prop) (s1 : Flw),v = .int .i64 (i : Int) /\ i <= KS.length /\ Hid (intosP T ((KS.drop i).map fun k => (caughtP f (m.hs.getD k noHnd).2.2.2,(m.hs.getD k noHnd).2.2.1)) s1 = some r1) /\ Hid (∀ b,okA b -> okN b ∨ w1.heap.size <= b) /\ Hid (FlI w0 okA wr gw fb wb tb m pp pc ph np cp nc cc nh ch s1) /\ Hid (S.Kp (fun b => okN b ∨ b = fb) w1 wr)) (fun x _ => KS.length - (intOf x).toNat)
 case atStart => exact ⟨0,okN,s,rfl,by omega,hid (by rw [List.drop_zero]; exact HQ.out),hid (fun b hb => .inl hb),HI,hid (S.Kp.refl _ _)⟩
 case round =>
  clear HQ HI
  obtain ⟨i,okZ,s1,rfl,hi,HQ,HOZ,HIZ,HKP⟩ := hrel
  obtain ⟨okA,hokA⟩ : ∃ z,z = fun b => okZ b /\ b < wr.heap.size := ⟨_,rfl⟩
  have HI : Hid (FlI w0 okA wr gw fb wb tb m pp pc ph np cp nc cc nh ch s1) := hid (by rw [hokA]; exact HIZ.out.narrow)
  have HOA : Hid (∀ b,okA b -> okN b ∨ w1.heap.size <= b) := hid (fun b hb => by rw [hokA] at hb; exact HOZ.out b hb.1)
  have HOW : Hid (∀ b,okA b -> b < wr.heap.size) := hid (fun b hb => by rw [hokA] at hb; exact hb.2)
  clear hokA HOZ HIZ
  by_cases hlt : i < KS.length
  ·have hlt' : (i : Int) < (KS.length : Int) := by omega
   have i0 : (0 : Int) <= (i : Int) := by omega
   obtain ⟨k,hk⟩ : ∃ k,KS[i]? = some k := ⟨_,List.getElem?_eq_getElem hlt⟩
   have hkl := HKL.out k (List.mem_of_getElem? hk)
   obtain ⟨y,hy⟩ : ∃ y,m.hs[k]? = some y := ⟨_,List.getElem?_eq_getElem hkl⟩
   have hq := HQ.out
   rw [List.drop_eq_getElem_cons hlt,show KS[i] = k from (List.getElem?_eq_some_iff.1 hk).2,List.map_cons,show m.hs.getD k noHnd = y by rw [List.getD_eq_getElem?_getD,hy]; rfl] at hq
   obtain ⟨p,hp1,hp2,r,hr1,hr2⟩ := intos_cons hq
   obtain ⟨yf,yt,ya,yc⟩ := y
   dsimp only at hp1 hr1
   subst hp1
   have HYC : Hid (yc.size <= 1000) := hid (HSZ.out.2.2.2.1 _ (List.mem_of_getElem? hy))
   have HR1 := hid hr1
   have HR2 := hid hr2
   have HP2 : Hid (p < nc) := hid (by have h9 : s1.1.length = nc := HI.out.2.2.2.2.1; omega)
   have hkr := rd_kp HKR.out HKP.out (fun b hb _ hn => by (have := HWN.out; have := HFB.out.1; rcases hn with hn | hn; (· have := HON.out b hn; omega); omega))
   obtain ⟨kb,ko,rfl,-,-,hkb,hkbl,hkc⟩ := hkr.place (fun e => by have e2 := congrArg List.length e; rw [List.length_map,List.length_nil] at e2; omega)
   have d0 := sP_at (hkc i (k : Int) (by rw [List.getElem?_map,hk]; rfl)) 0 _ rfl
   simp only [Nat.mul_one,Nat.add_zero] at d0
   have hhr := HH.out.any (sP.grow _) HI.out.2.2.2.2.2.2.2.2
   obtain ⟨hb,ho,rfl,-,-,-,hhbl,hhc⟩ := hhr.place (fun e => by rw [e] at hy; simp at hy)
   have d4 := sP_at (hhc k _ hy)
   have e0 := d4 0 _ rfl
   have e1 := d4 1 _ rfl
   have e2 := d4 2 _ rfl
   have e3 := d4 3 _ rfl
   simp only [Nat.add_zero] at e0
   have k0 : (0 : Int) <= (k : Int) := by omega
   have k1 : (k : Int) < (nh : Int) := by have := HNC.out.2; omega
   have k2 : (k : Int).toNat = k := by omega
   obtain ⟨hgl,⟨c0,c10,c11⟩,c1,c2,c3,c4,c5,c6,c7,c8,c9⟩ := HI.out.cells
   clear hkr hkc hhr hhc d4 hq hp2 hr1 hr2 hy hk hkl
   go_upto_region 6 with fail
   clear hgl c0 c10 c11 c1 c2 c3 c4 c5 c6 c7 c8 c9 d0 e0 e1 e2 e3 hkb hkbl hhbl k0 k1 k2
   obtain ⟨w2,hw2⟩ : ∃ z,z = wr.alloc (.cells #[.int .i64 yf,.int .i64 yt,.int .i64 (p : Int),.string yc] 68) := ⟨_,rfl⟩
   have hbn : Below wr.heap.size wr w2 := by rw [hw2]; exact below_alR _ _
   have HY : Hid (w2.heap[wr.heap.size]? = some (.cells #[.int .i64 yf,.int .i64 yt,.int .i64 (p : Int),.string yc] 68 (0,0))) := hid (by rw [hw2]; exact heap_alloc_new _ _)
   have HG4 : Hid (g < wr.heap.size /\ _ /\ _ /\ _) := hid (c3_kp2 HG3.out HKP.out (fun hn => by (have := HFB.out.1; rcases hn with hn | hn; (· have := HON.out g hn; omega); omega)))
   have HUC : Hid (UC w2 g wr.heap.size p yc (.bool f.1) (.slice pl f.2.1.length cl) (.slice ps f.2.2.length cs)) := hid ⟨⟨(Array.getElem?_eq_some_iff.1 HY.out).1,by simp [World.cell?,HY.out],by simp [World.cell?,HY.out]⟩,c3_b HG4.out hbn⟩
   replace HI := hid (HI.out.bel hbn)
   have HKP2 : Hid (S.Kp (fun b => okN b ∨ b = fb) w1 w2) := hid (kp_trans0 HKP.out (S.Kp.of_kpt (S := []) (S.Kpt.of_below hbn) (fun x hx => by cases hx) : S.Kp (fun _ => False) _ _) (fun x hx _ => hx.elim))
   rw [<- hw2]
   have HWR : Hid (w1.heap.size <= wr.heap.size /\ wr.heap.size < w2.heap.size) := hid ⟨HKP.out.size,(Array.getElem?_eq_some_iff.1 HY.out).1⟩
   have HNY : Hid (¬ okA wr.heap.size) := hid (fun hn => by have := HOW.out _ hn; omega)
   obtain ⟨gy,hgy⟩ : ∃ z,wr.heap.size = z := ⟨_,rfl⟩
   rw [hgy] at HUC HWR HNY ⊢
   clear hbn hw2 hgy HY HG4 HKP
   have hbn := (Below.refl w2.heap.size w2).drew
   replace HUC := hid (HUC.out.bel hbn)
   replace HI := hid (HI.out.bel hbn)
   replace HKP2 : Hid (S.Kp _ w1 w2.drew) := hid (kp_trans0 HKP2.out (S.Kp.of_kpt (S := []) (S.Kpt.of_below hbn) (fun x hx => by cases hx) : S.Kp (fun _ => False) _ _) (fun x hx _ => hx.elim))
   clear hbn
   have HV2 : Hid (RdO (fun b => ¬ okN b /\ b ≠ fb) w2.drew _ f) := hid (HV.out.step (fun _ h _ => h) (fun b hb hl => HKP2.out.2 b hl (fun hn => by rcases hn with hn | hn; (· exact hb.1 hn); exact hb.2 hn)) HKP2.out.size)
   refine wp_region_held_drew (S := fun W => (gy < W.heap.size /\ W.cell? ⟨gy,2,none⟩ = some (.int .i64 (p : Int)) /\ W.cell? ⟨gy,3,none⟩ = some (.string yc)) /\ (g < W.heap.size /\ W.cell? ⟨g,0,none⟩ = some (.bool f.1) /\ W.cell? ⟨g,1,none⟩ = some (.slice pl f.2.1.length cl) /\ W.cell? ⟨g,2,none⟩ = some (.slice ps f.2.2.length cs))) (by kernel_rfl) (by first | exact HUC4.out | exact HUC.out) (fun hh => ?_)
   refine tkA 0 _ hh ?_
   try go_frame
   refine tkA 1 _ hh ?_
   try go_frame
   refine tkB 2 _ hh ?_
   try go_frame
   refine tkB 3 _ hh ?_
   try go_frame
   refine tkA 4 _ hh ?_
   try go_frame
   refine tkB 5 _ hh ?_
   try go_frame
   refine rdH [6] ?_
   refine AllReadyH.cons (o := _) (by simp only [List.getElem?_toArray,List.getElem?_cons_succ,List.getElem?_cons_zero]; rfl) (fun KX hKX => ?_) AllReadyH.nil
   clear hh
   go_simp
   refine (Caught_g _ f yc _ HV2.out.rd (szB_szF HFZ.out) (sz_small HYC.out)).mono ?_
   rintro e w3 ⟨vg,rfl,hvg,hbn⟩
   have HVG : Hid (RdF w3 vg (caughtP f yc)) := hid hvg.rd
   replace HUC := hid (HUC.out.bel hbn)
   replace HI := hid (HI.out.bel hbn)
   replace HKP2 : Hid (S.Kp _ w1 w3) := hid (kp_trans0 HKP2.out (S.Kp.of_kpt (S := []) (S.Kpt.of_below hbn) (fun x hx => by cases hx) : S.Kp (fun _ => False) _ _) (fun x hx _ => hx.elim))
   clear hbn hvg HV2
   refine hKX.out _ _ (by first | exact HUC4.out | exact HUC.out) (fun hh => ?_)
   clear hKX KX
   try go_frame
   refine rdH [7] ?_
   refine AllReadyH.cons (o := _) (by simp only [List.getElem?_toArray,List.getElem?_cons_succ,List.getElem?_cons_zero]; rfl) (fun KX hKX => ?_) AllReadyH.nil
   clear hh
   go_simp
   refine (join_w okt w0 okA gw fb wb tb K m pp pc (some ⟨hb,ho,none⟩) np cp nc cc nh ch s1 p vg (caughtP f yc) r w3 HT.out HI.out HVG.out (caught_sz HFZ.out HYC.out) HP2.out (by have := HNC.out.1; have := HSZ.out.2.1; omega) (by rw [HTT.out]; exact HR1.out)).mono ?_
   rintro e w4 ⟨rfl,okB,hB1,hB2,hB3⟩
   have HB1 := hid hB1
   have HI4 := hid hB2
   have HB3 := hid hB3
   have HUC4 := hid (HUC.out.kp hB3 (fun hn => by (have := HFB.out; rcases hn with hn | hn; (· rcases HOA.out g hn with h | h; (· have := HON.out g h; omega); (have := HWR.out; have := HW1.out; have := HWN.out; omega)); omega)) (fun hn => by (have := HFB.out; have := HWR.out; have := HW1.out; have := HWN.out; rcases hn with hn | hn; (· exact HNY.out hn); omega)))
   clear hB1 hB2 hB3
   refine hKX.out _ _ (by first | exact HUC4.out | exact HUC.out) (fun hh => ?_)
   clear hKX KX
   try go_frame
   refine tkA 8 _ hh ?_
   try go_frame
   refine wpAnyH_done (by kernel_rfl) ?_ _
   clear hh
   rcases HR2.out with ⟨h0,hq2⟩ | ⟨h0,hq2⟩
   ·have HQ4 := hid hq2
    have hkn := HKN.out
    have hr0 : (r.2 != 0) = false := by simpa using h0
    go_wp2_with fail
    go_roundw
    case rel => exact ⟨i + 1,okB,r.1,by go_num,by omega,HQ4,hid (fun b hb => by rcases HB1.out b hb with h | h; (· exact HOA.out b h); (have := HKP2.out.size; exact .inr (by omega))),HI4,hid (kp_trans0 HKP2.out HB3.out (fun x hx hl => by rcases hx with h | h; (· rcases HOA.out x h with h | h; (· exact .inl h); omega); exact .inr h))⟩
    case measure => simp [intOf]; omega
   ·subst hq2
    have hr0 : (r1.2 != 0) = true := by simpa using h0
    obtain rfl : R = r1 := by have h9 := HR.out; rw [if_pos h0] at h9; exact (Option.some.inj h9).symm
    go_wp2_with fail
    go_ret
    exact ⟨rfl,okB,HI4.out⟩
  ·have hlt' : ¬ (i : Int) < (KS.length : Int) := by omega
   obtain rfl : i = KS.length := by omega
   obtain rfl : r1 = (s1,0) := by have h9 := HQ.out; rw [List.drop_length] at h9; exact (Option.some.inj h9).symm
   have HR3 := HR.out
   dsimp only at HR3
   rw [if_neg (by simp)] at HR3
   clear HQ HKR HKS HKL HKN hlt hi
   have HR4 := hid HR3
   clear HR3 HR
   have HG4 : Hid (g < wr.heap.size /\ _ /\ _ /\ _) := hid (c3_kp2 HG3.out HKP.out (fun hn => by (have := HFB.out.1; rcases hn with hn | hn; (· have := HON.out g hn; omega); omega)))
   have HV2 : Hid (RdF wr _ f) := hid (HV.out.step (fun _ h _ => h) (fun b hb hl => HKP.out.2 b hl (fun hn => by rcases hn with hn | hn; (· exact hb.1 hn); exact hb.2 hn)) HKP.out.size).rd
   have hx := HX.out
   obtain ⟨cb,co,hcb0,-,-,-,hcbl,hcc⟩ := (HC.out.any (sP.grow _) HI.out.2.2.2.2.2.2.2.2).place (fun e => by rw [e] at hx; simp at hx)
   subst hcb0
   have d7 := sP_at (hcc a x hx)
   have e0 := d7 0 _ rfl
   have e1 := d7 1 _ rfl
   have e2 := d7 2 _ rfl
   have e3 := d7 3 _ rfl
   have e4 := d7 4 _ rfl
   have e5 := d7 5 _ rfl
   have e6 := d7 6 _ rfl
   simp only [Nat.add_zero] at e0
   obtain ⟨hgl,⟨c0,c10,c11⟩,c1,c2,c3,c4,c5,c6,c7,c8,c9⟩ := HI.out.cells
   have HSC : Hid (SC wr g gw cb co a tb (.bool f.1) (.slice pl f.2.1.length cl) (.slice ps f.2.2.length cs) m pp (some ⟨cb,co,none⟩) ph np cp nc cc nh ch x) := hid ⟨HG4.out,⟨hgl,c0,c1,c2,c3,c4,c5,c6,c7,c8,c9⟩,hcbl,e0,e1,e2,e3,e4,e5,e6⟩
   clear hgl c0 c10 c11 c1 c2 c3 c4 c5 c6 c7 c8 c9 d7 e0 e1 e2 e3 e4 e5 e6 hcc hcbl hx HG4
   have hxi := HOK.out
   unfold okCode at hxi
   rw [List.all_eq_true] at hxi
   have hxi2 := hxi x (List.mem_of_getElem? HX.out)
   rw [Bool.and_eq_true] at hxi2
   have HXI := hid hxi2
   have HXC : Hid (x.2.2.2.2.1.size <= maxLen) := hid (sz_small (HSZ.out.2.2.2.2 x (List.mem_of_getElem? HX.out)))
   clear hxi hxi2
   cases hfi : findB x.1 x.2.2.1 f.2.1.length with
   | false => have h9 := HR4.out; rw [if_pos hfi] at h9; cases h9
   | true =>
    have HFI := hid hfi
    obtain ⟨J,hJ⟩ : ∃ z,stepI T m.ret f x = z := ⟨_,rfl⟩
    have h9 := HR4.out
    rw [if_neg (by rw [hfi]; simp),hJ] at h9
    have HR5 := hid h9
    have HJJ : Hid (stepC T f x.1 x.2.2.1 (chgI T m.ret f x.1 x.2.2.1 x.2.2.2.2.1) = J) := hid hJ
    clear h9 hfi HR4 hJ
    go_upto_region 10 with fail
    go_cut [10,11] from 53 to 74 (fun s10 s11 wx => ∃ (gg : Nat) (kl : Option Addr) (el : Nat) (ks : Option Addr) (es' : Nat),s10 = .pointer (some ⟨gg,0,none⟩) /\ s11 = .int .i64 J.2 /\ Hid (wx.heap[gg]? = some (.cells #[.bool J.1.1,.slice kl J.1.2.1.length el,.slice ks J.1.2.2.length es'] 61 (0,0))) /\ Hid (RdG wr.heap.size wx (.agg #[.bool J.1.1,.slice kl J.1.2.1.length el,.slice ks J.1.2.2.length es']) J.1) /\ Hid (Below wr.heap.size wr wx) /\ Hid (wr.heap.size <= gg))
    case first =>
     have HJN : Hid (g < wr.heap.size /\ gw < wr.heap.size /\ cb < wr.heap.size) := hid ⟨HSC.out.1.1,HSC.out.2.1.1,HSC.out.2.2.1⟩
     have HBX : Hid (Below wr.heap.size wr wr.drew) := hid (Below.refl _ _).drew
     have hbn := (Below.refl wr.heap.size wr).drew
     replace HSC := hid (HSC.out.bel hbn)
     replace HV2 := hid (HV2.out.below hbn)
     replace HI := hid (HI.out.bel hbn)
     clear hbn
     refine wp_region_held_drew (S := fun W => (g < W.heap.size /\ W.cell? ⟨g,0,none⟩ = some (.bool f.1) /\ W.cell? ⟨g,1,none⟩ = some (.slice pl f.2.1.length cl) /\ W.cell? ⟨g,2,none⟩ = some (.slice ps f.2.2.length cs)) /\ (gw < W.heap.size /\ W.cell? ⟨gw,0,none⟩ = some (.pointer (some ⟨tb,0,none⟩)) /\ W.cell? ⟨gw,1,none⟩ = some (.string m.name) /\ W.cell? ⟨gw,2,none⟩ = some (.slice pp np cp) /\ W.cell? ⟨gw,3,none⟩ = some (.int .i64 m.ret.1) /\ W.cell? ⟨gw,4,none⟩ = some (.string m.ret.2) /\ W.cell? ⟨gw,5,none⟩ = some (.bool m.st) /\ W.cell? ⟨gw,6,none⟩ = some (.bool m.ab) /\ W.cell? ⟨gw,7,none⟩ = some (.int .i64 m.locals) /\ W.cell? ⟨gw,8,none⟩ = some (.slice (some ⟨cb,co,none⟩) nc cc) /\ W.cell? ⟨gw,9,none⟩ = some (.slice ph nh ch)) /\ (cb < W.heap.size /\ W.cell? ⟨cb,co + a * 7,none⟩ = some (.int .i64 x.1) /\ W.cell? ⟨cb,co + a * 7 + 1,none⟩ = some (.int .i32 x.2.1) /\ W.cell? ⟨cb,co + a * 7 + 2,none⟩ = some (.int .i64 x.2.2.1) /\ W.cell? ⟨cb,co + a * 7 + 3,none⟩ = some (.string x.2.2.2.1) /\ W.cell? ⟨cb,co + a * 7 + 4,none⟩ = some (.string x.2.2.2.2.1) /\ W.cell? ⟨cb,co + a * 7 + 5,none⟩ = some (.string x.2.2.2.2.2.1) /\ W.cell? ⟨cb,co + a * 7 + 6,none⟩ = some (.string x.2.2.2.2.2.2))) (by kernel_rfl) (by first | exact HSC.out | exact HSK.out) (fun hh => ?_)
     refine tkA 0 _ hh ?_
     try go_frame
     refine tkA 1 _ hh ?_
     try go_frame
     refine tkA 2 _ hh ?_
     try go_frame
     refine tkB 3 _ hh ?_
     try go_frame
     refine tkA 4 _ hh ?_
     try go_frame
     refine tkA 5 _ hh ?_
     try go_frame
     refine tkA 6 _ hh ?_
     try go_frame
     refine tkB 7 _ hh ?_
     try go_frame
     refine tkB 8 _ hh ?_
     try go_frame
     refine tkA 9 _ hh ?_
     try go_frame
     refine tkA 10 _ hh ?_
     try go_frame
     refine tkA 11 _ hh ?_
     try go_frame
     refine tkA 12 _ hh ?_
     try go_frame
     refine tkB 13 _ hh ?_
     try go_frame
     refine tkA 14 _ hh ?_
     try go_frame
     refine tkA 15 _ hh ?_
     try go_frame
     refine tkB 16 _ hh ?_
     try go_frame
     refine rdH [17,21] ?_
     refine AllReadyH.cons (o := _) (by simp only [List.getElem?_toArray,List.getElem?_cons_succ,List.getElem?_cons_zero]; rfl) (fun KX hKX => ?_) ?_
     ·clear hh
      go_simp
      have HSX := hid HBX.out.size
      refine (Step_j okt tb K m.name m.ret m.st m.ab m.locals pp (some ⟨cb,co,none⟩) ph np cp nc cc nh ch _ f x.1 x.2.1 x.2.2.1 x.2.2.2.1 x.2.2.2.2.1 x.2.2.2.2.2.1 x.2.2.2.2.2.2 _ (HT.out.below0 HI.out) HFW.out HV2.out (szB_szF HFZ.out) (sz_small HSZ.out.1) HXC.out HXI.out.1 HXI.out.2 HFI.out).mono ?_
      rw [HTT.out,HJJ.out]
      rintro e w5 ⟨vg,rfl,⟨kl,el,ks,es',rfl,k1,k2⟩,hbn⟩
      replace HSC := hid (HSC.out.bel hbn)
      replace HV2 := hid (HV2.out.below hbn)
      replace HI := hid (HI.out.bel hbn)
      replace HBX := hid (HBX.out.trans (hbn.mono HBX.out.size))
      have HK0 : Hid (RdO (fun b => wr.heap.size <= b) w5 (.agg #[.bool J.1.1,.slice kl J.1.2.1.length el,.slice ks J.1.2.2.length es']) J.1) := hid ⟨kl,el,ks,es',rfl,rd_up k1 HSX.out,rd_up k2 HSX.out⟩
      clear hbn k1 k2
      refine hKX.out _ _ (by first | exact HSC.out | exact HSK.out) (fun hh => ?_)
      clear hKX KX
      try go_frame
      refine tkA 18 _ hh ?_
      try go_frame
      refine tkA 19 _ hh ?_
      try go_frame
      refine tkA 20 _ hh ?_
      try go_frame
      refine rdH [21] ?_
      refine AllReadyH.cons (o := _) (by simp only [List.getElem?_toArray,List.getElem?_cons_succ,List.getElem?_cons_zero]; rfl) (fun KX hKX => ?_) AllReadyH.nil
      clear hh
      go_simp
      have hbn := below_alR w5 (.cells #[.bool false,.slice none 0 0,.slice none 0 0] 61)
      have HGG : Hid ((w5.alloc (.cells #[.bool false,.slice none 0 0,.slice none 0 0] 61)).heap[w5.heap.size]? = some (.cells #[.bool false,.slice none 0 0,.slice none 0 0] 61 (0,0))) := hid (heap_alloc_new w5 (.cells #[.bool false,.slice none 0 0,.slice none 0 0] 61))
      have HNX : Hid (wr.heap.size <= w5.heap.size) := hid HBX.out.size
      replace HSC := hid (HSC.out.bel hbn)
      replace HV2 := hid (HV2.out.below hbn)
      replace HI := hid (HI.out.bel hbn)
      replace HBX := hid (HBX.out.trans (hbn.mono HBX.out.size))
      have HK : Hid (RdO (fun b => wr.heap.size <= b /\ b ≠ w5.heap.size) _ _ J.1) := hid (HK0.out.step (fun b hb hl => ⟨hb,Nat.ne_of_lt hl⟩) (.of_below hbn) hbn.size)
      have HGL : Hid (w5.heap.size < (w5.alloc (.cells #[.bool false,.slice none 0 0,.slice none 0 0] 61)).heap.size) := hid (by simp)
      clear hbn
      obtain ⟨gg,hgg⟩ : ∃ z,w5.heap.size = z := ⟨_,rfl⟩
      rw [hgg] at HGG HNX HK HGL ⊢
      clear hgg
      refine hKX.out _ _ (by first | exact HSC.out | exact HSK.out) (fun hh => ?_)
      clear hKX KX
      try go_frame
      refine rdH [22] ?_
      refine AllReadyH.cons (o := _) (by simp only [List.getElem?_toArray,List.getElem?_cons_succ,List.getElem?_cons_zero]; rfl) (fun KX hKX => ?_) AllReadyH.nil
      clear hh
      obtain ⟨rl,rc,rf⟩ := boxN HGG.out
      have r0 := rc 0 _ rfl
      have r1 := rc 1 _ rfl
      have r2 := rc 2 _ rfl
      have u0 := rf 0
      have u1 := rf 1
      have u2 := rf 2
      simp only [Nat.zero_add] at r0 r1 r2
      clear rc rf
      go_simp
      have HSK : Hid (SC ((((w5.alloc (.cells #[.bool false,.slice none 0 0,.slice none 0 0] 61)).setCell ⟨gg,0,none⟩ (.bool J.1.1)).setCell ⟨gg,1,none⟩ (.slice kl J.1.2.1.length el)).setCell ⟨gg,2,none⟩ (.slice ks J.1.2.2.length es')) g gw cb co a tb (.bool f.1) (.slice pl f.2.1.length cl) (.slice ps f.2.2.length cs) m pp (some ⟨cb,co,none⟩) ph np cp nc cc nh ch x) := hid (HSC.out.to (set3_kpt _ _ _ _ _ _ _ _).size (fun b hb hl => (set3_kpt _ gg 0 1 2 _ _ _).2 b hl (by have := HNX.out; have := HJN.out; simp; rcases hb with rfl | rfl | rfl <;> omega)))
      refine hKX.out _ _ (by first | exact HSC.out | exact HSK.out) (fun hh => ?_)
      clear hKX KX
      try go_frame
      refine tkA 23 _ hh ?_
      try go_frame
      refine wpAnyH_done (by kernel_rfl) ?_ _
      clear hh
      go_wp2_with fail
      go_meet
      case rel => exact ⟨gg,kl,el,ks,es',rfl,rfl,hid (by rw [heap3_st HGG.out]),hid (HK.out.set3),hid (HBX.out.trans ((set3_kpt _ gg 0 1 2 _ _ _).below (fun x hx => by simp at hx; have := HNX.out; omega) HBX.out.size)),HNX⟩
     refine AllReadyH.cons (o := _) (by simp only [List.getElem?_toArray,List.getElem?_cons_succ,List.getElem?_cons_zero]; rfl) (fun KX hKX => ?_) AllReadyH.nil
     clear hh
     go_simp
     have hbn := below_alR wr.drew (.cells #[.bool false,.slice none 0 0,.slice none 0 0] 61)
     have HGG : Hid ((wr.drew.alloc (.cells #[.bool false,.slice none 0 0,.slice none 0 0] 61)).heap[wr.heap.size]? = some (.cells #[.bool false,.slice none 0 0,.slice none 0 0] 61 (0,0))) := hid (heap_alloc_new wr.drew (.cells #[.bool false,.slice none 0 0,.slice none 0 0] 61))
     have HNX : Hid (wr.heap.size <= wr.heap.size) := hid HBX.out.size
     replace HSC := hid (HSC.out.bel hbn)
     replace HV2 := hid (HV2.out.below hbn)
     replace HI := hid (HI.out.bel hbn)
     replace HBX := hid (HBX.out.trans (hbn.mono HBX.out.size))
     have HGL : Hid (wr.heap.size < (wr.drew.alloc (.cells #[.bool false,.slice none 0 0,.slice none 0 0] 61)).heap.size) := hid (by simp)
     clear hbn
     obtain ⟨gg,hgg⟩ : ∃ z,wr.heap.size = z := ⟨_,rfl⟩
     rw [show wr.heap.size = gg from hgg] at HGG HGL ⊢
     replace HNX : Hid (wr.heap.size <= gg) := hid (by rw [<- hgg]; exact Nat.le_refl _)
     clear hgg
     refine hKX.out _ _ (by first | exact HSC.out | exact HSK.out) (fun hh => ?_)
     clear hKX KX
     try go_frame
     refine rdH [17] ?_
     refine AllReadyH.cons (o := _) (by simp only [List.getElem?_toArray,List.getElem?_cons_succ,List.getElem?_cons_zero]; rfl) (fun KX hKX => ?_) AllReadyH.nil
     clear hh
     go_simp
     have HSX := hid HBX.out.size
     refine (Step_j okt tb K m.name m.ret m.st m.ab m.locals pp (some ⟨cb,co,none⟩) ph np cp nc cc nh ch _ f x.1 x.2.1 x.2.2.1 x.2.2.2.1 x.2.2.2.2.1 x.2.2.2.2.2.1 x.2.2.2.2.2.2 _ (HT.out.below0 HI.out) HFW.out HV2.out (szB_szF HFZ.out) (sz_small HSZ.out.1) HXC.out HXI.out.1 HXI.out.2 HFI.out).mono ?_
     rw [HTT.out,HJJ.out]
     rintro e w5 ⟨vg,rfl,⟨kl,el,ks,es',rfl,k1,k2⟩,hbn⟩
     replace HSC := hid (HSC.out.bel hbn)
     replace HV2 := hid (HV2.out.below hbn)
     replace HI := hid (HI.out.bel hbn)
     replace HBX := hid (HBX.out.trans (hbn.mono HBX.out.size))
     replace HGG := hid (blk_b HGG.out hbn)
     have HK : Hid (RdO (fun b => wr.heap.size <= b /\ b ≠ gg) w5 (.agg #[.bool J.1.1,.slice kl J.1.2.1.length el,.slice ks J.1.2.2.length es']) J.1) := hid (RdO.step (ok := fun b => _ <= b) ⟨kl,el,ks,es',rfl,k1,k2⟩ (fun b hb _ => by have h1 : _ <= b := hb; have := HGL.out; have := HNX.out; omega) (fun _ _ _ => rfl) (Nat.le_refl _))
     clear hbn k1 k2
     refine hKX.out _ _ (by first | exact HSC.out | exact HSK.out) (fun hh => ?_)
     clear hKX KX
     try go_frame
     refine tkA 18 _ hh ?_
     try go_frame
     refine tkA 19 _ hh ?_
     try go_frame
     refine tkA 20 _ hh ?_
     try go_frame
     refine rdH [22] ?_
     refine AllReadyH.cons (o := _) (by simp only [List.getElem?_toArray,List.getElem?_cons_succ,List.getElem?_cons_zero]; rfl) (fun KX hKX => ?_) AllReadyH.nil
     clear hh
     obtain ⟨rl,rc,rf⟩ := boxN HGG.out
     have r0 := rc 0 _ rfl
     have r1 := rc 1 _ rfl
     have r2 := rc 2 _ rfl
     have u0 := rf 0
     have u1 := rf 1
     have u2 := rf 2
     simp only [Nat.zero_add] at r0 r1 r2
     clear rc rf
     go_simp
     have HSK : Hid (SC (((w5.setCell ⟨gg,0,none⟩ (.bool J.1.1)).setCell ⟨gg,1,none⟩ (.slice kl J.1.2.1.length el)).setCell ⟨gg,2,none⟩ (.slice ks J.1.2.2.length es')) g gw cb co a tb (.bool f.1) (.slice pl f.2.1.length cl) (.slice ps f.2.2.length cs) m pp (some ⟨cb,co,none⟩) ph np cp nc cc nh ch x) := hid (HSC.out.to (set3_kpt _ _ _ _ _ _ _ _).size (fun b hb hl => (set3_kpt _ gg 0 1 2 _ _ _).2 b hl (by have := HNX.out; have := HJN.out; simp; rcases hb with rfl | rfl | rfl <;> omega)))
     refine hKX.out _ _ (by first | exact HSC.out | exact HSK.out) (fun hh => ?_)
     clear hKX KX
     try go_frame
     refine tkA 23 _ hh ?_
     try go_frame
     refine wpAnyH_done (by kernel_rfl) ?_ _
     clear hh
     go_wp2_with fail
     go_meet
     case rel => exact ⟨gg,kl,el,ks,es',rfl,rfl,hid (by rw [heap3_st HGG.out]),hid (HK.out.set3),hid (HBX.out.trans ((set3_kpt _ gg 0 1 2 _ _ _).below (fun x hx => by simp at hx; have := HNX.out; omega) HBX.out.size)),HNX⟩
    case rest =>
     obtain ⟨gg,kl,el,ks,es',rfl,rfl,HGG,HK,HBX,HNX⟩ := hcut
     have HI0 := HI
     have hbn := HBX.out
     replace HI := hid (HI.out.bel hbn)
     clear hbn HSC HV2
     have HGX : Hid (gg < wc.heap.size /\ wr.heap.size <= wc.heap.size /\ fb < wr.heap.size /\ w1.heap.size <= wr.heap.size) := hid ⟨(Array.getElem?_eq_some_iff.1 HGG.out).1,HBX.out.size,by have := HFB.out; have := HWN.out; have := HW1.out; have := HKP.out.size; omega,HKP.out.size⟩
     by_cases hj : J.2 = 0
     ·have hj2 : (J.2 != 0) = false := by simpa using hj
      have h9 := HR5.out
      rw [if_neg (by simpa using hj)] at h9
      have HR6 := hid h9
      clear h9 HR5
      cases hzj : szB J.1 with
      | false => have h9 := HR6.out; rw [if_pos hzj] at h9; cases h9
      | true =>
       have HZJ := hid hzj
       have h9 := HR6.out
       rw [if_neg (by rw [hzj]; simp)] at h9
       have HR7 := hid h9
       clear h9 HR6 hzj
       obtain ⟨NS,hNS⟩ : ∃ z,nextI x (a : Int) = z := ⟨_,rfl⟩
       have HNS : Hid (nextW m.code (a : Int) = NS) := hid (by unfold nextW; rw [if_pos ⟨by omega,by have := HNC.out.1; omega⟩,a2,List.getD_eq_getElem?_getD,HX.out]; exact hNS)
       have HNL : Hid (NS.length <= 2) := hid (by rw [<- hNS]; unfold nextI; split <;> split <;> simp)
       rw [hNS] at HR7
       clear hNS
       obtain ⟨hgl,⟨c0,c10,c11⟩,c1,c2,c3,c4,c5,c6,c7,c8,c9⟩ := HI.out.cells
       go_wp2_with fail
       clear hgl c0 c10 c11 c1 c2 c3 c4 c5 c6 c7 c8 c9
       refine (Next_w m pp (some ⟨cb,co,none⟩) ph np cp nc cc nh ch (a : Int) wc (HC.out.any (sP.grow _) HI.out.2.2.2.2.2.2.2.2) HSZ.out.2.1).mono ?_
       rw [HNS.out]
       rintro e w6 ⟨pk,ck,rfl,hrd,hbn⟩
       have HKR : Hid (RdX 1 (sP intC) (fun b => wc.heap.size <= b /\ b < w6.heap.size) w6 (.slice pk NS.length ck) NS) := hid (hrd.step (sP.grow _) (fun b hb hl => ⟨hb,hl⟩) (fun _ _ _ => rfl) (Nat.le_refl _))
       have HG6 := hid (c3_b (c3_at HGG.out) hbn)
       have HW6 : Hid (wc.heap.size <= w6.heap.size) := hid hbn.size
       have HIN : Hid (FlI w0 (fun b => okA b /\ b < wr.heap.size) w6 gw fb wb tb m pp (some ⟨cb,co,none⟩) ph np cp nc cc nh ch s1) := hid ((HI0.out.narrow.bel HBX.out).bel hbn)
       obtain ⟨okM,hokM⟩ : ∃ z,z = fun b => okA b /\ b < wr.heap.size := ⟨_,rfl⟩
       have HOM : Hid (∀ b,okM b -> b < wr.heap.size) := hid (fun b hb => by rw [hokM] at hb; exact hb.2)
       rw [<- hokM] at HIN
       have HV6 : Hid (RdO (fun b => ¬ okM b /\ b ≠ fb) w6 _ J.1) := hid ((HK.out.bel hbn).ro.step (fun b hb _ => ⟨fun hx => by have := HOM.out b hx; have h2 : _ <= b := hb; omega,by have := HGX.out; have h2 : _ <= b := hb; omega⟩) (fun _ _ _ => rfl) (Nat.le_refl _))
       clear hrd hbn hokM HI HI0 HK HGG HOA HKP
       go_wp2_with fail
       go_loopw [84] (fun v wq => ∃ (i : Nat) (okB : Nat -> Prop) (s2 : Flw),v = .int .i64 (i : Int) /\ i <= NS.length /\ Hid (intosP T ((NS.drop i).map fun n => (J.1,n)) s2 = some R) /\ Hid (∀ b,okB b -> okM b ∨ w6.heap.size <= b) /\ Hid (FlI w0 okB wq gw fb wb tb m pp (some ⟨cb,co,none⟩) ph np cp nc cc nh ch s2) /\ Hid (S.Kp (fun b => okM b ∨ b = fb) w6 wq)) (fun x _ => NS.length - (intOf x).toNat)
       case atStart => exact ⟨0,okM,s1,rfl,by omega,hid (by rw [List.drop_zero]; exact HR7.out),hid (fun b hb => .inl hb),HIN,hid (S.Kp.refl _ _)⟩
       case round =>
        obtain ⟨i,okB,s2,rfl,hi,HQ,HOB,HI,HKP⟩ := hrel
        by_cases hlt : i < NS.length
        ·have hlt' : (i : Int) < (NS.length : Int) := by omega
         have i0 : (0 : Int) <= (i : Int) := by omega
         obtain ⟨k,hk⟩ : ∃ k,NS[i]? = some k := ⟨_,List.getElem?_eq_getElem hlt⟩
         have hq := HQ.out
         rw [List.drop_eq_getElem_cons hlt,show NS[i] = k from (List.getElem?_eq_some_iff.1 hk).2,List.map_cons] at hq
         obtain ⟨p,rfl,hp2,r,hr1,hr2⟩ := intos_cons hq
         have HR1 := hid hr1
         have HR2 := hid hr2
         have HP2 : Hid (p < nc) := hid (by have h9 : s2.1.length = nc := HI.out.2.2.2.2.1; omega)
         have hkr := rd_kp HKR.out HKP.out (fun b hb _ hn => by (have := HGX.out; rcases hn with hn | hn; (· have := HOM.out b hn; omega); omega))
         obtain ⟨kb,ko,rfl,-,-,hkb,hkbl,hkc⟩ := hkr.place (fun e => by rw [e] at hlt; simp at hlt)
         have d0 := sP_at (hkc i _ hk) 0 _ rfl
         simp only [Nat.mul_one,Nat.add_zero] at d0
         have HG7 := hid (c3_kp2 HG6.out HKP.out (fun hn => by (have := HGX.out; have := HNX.out; rcases hn with hn | hn; (· have := HOM.out gg hn; omega); omega)))
         have HV7 : Hid (RdF _ _ J.1) := hid (HV6.out.step (fun _ h _ => h) (fun b hb hl => HKP.out.2 b hl (fun hn => by rcases hn with hn | hn; (· exact hb.1 hn); exact hb.2 hn)) HKP.out.size).rd
         obtain ⟨gl,g0,g1,g2⟩ := HG7.out
         clear hkr hkc hq hp2 hr1 hr2 hk
         go_wp2_with fail
         clear gl g0 g1 g2 d0 hkb hkbl
         refine (join_w okt w0 okB gw fb wb tb K m pp (some ⟨cb,co,none⟩) ph np cp nc cc nh ch s2 p _ J.1 r _ HT.out HI.out HV7.out HZJ.out HP2.out (by have := HNC.out.1; have := HSZ.out.2.1; omega) (by rw [HTT.out]; exact HR1.out)).mono ?_
         rintro e w8 ⟨rfl,okD,hB1,hB2,hB3⟩
         have HB1 := hid hB1
         have HI8 := hid hB2
         have HB3 := hid hB3
         clear hB1 hB2 hB3
         rcases HR2.out with ⟨h0,hq2⟩ | ⟨h0,hq2⟩
         ·have HQ4 := hid hq2
          have hkn := HNL.out
          have hr0 : (r.2 != 0) = false := by simpa using h0
          go_wp2_with fail
          go_roundw
          case rel => exact ⟨i + 1,okD,r.1,by go_num,by omega,HQ4,hid (fun b hb => by rcases HB1.out b hb with h | h; (· exact HOB.out b h); (have := HKP.out.size; exact .inr (by omega))),HI8,hid (kp_trans0 HKP.out HB3.out (fun x hx hl => by rcases hx with h | h; (· rcases HOB.out x h with h | h; (· exact .inl h); omega); exact .inr h))⟩
          case measure => simp [intOf]; omega
         ·subst hq2
          have hr0 : (R.2 != 0) = true := by simpa using h0
          go_wp2_with fail
          go_ret
          exact ⟨rfl,okD,HI8.out⟩
        ·have hlt' : ¬ (i : Int) < (NS.length : Int) := by omega
         obtain rfl : i = NS.length := by omega
         obtain rfl : R = (s2,0) := by have h9 := HQ.out; rw [List.drop_length] at h9; exact (Option.some.inj h9).symm
         go_wp2_with fail
         go_ret
         exact ⟨rfl,okB,HI.out⟩
     ·have hj2 : (J.2 != 0) = true := by simpa using hj
      obtain rfl : R = (s1,J.2) := by have h9 := HR5.out; rw [if_pos hj] at h9; exact (Option.some.inj h9).symm
      go_wp2_with fail
      go_ret
      exact ⟨rfl,okA,HI.out⟩
end Go.Proofs.YtfpeakkbbfnhcaaGreat.R
