/- Texts that the proof is made of, joined. No condition. -/
import Derived.Test.YtfpeakkbbfnhcaaGreatC136
import Derived.Test.YtfpeakkbbfnhcaaGreatC13H
set_option linter.unusedVariables false
set_option linter.unusedSimpArgs false
set_option maxRecDepth 100000
set_option maxHeartbeats 16000000
namespace Go.Proofs.YtfpeakkbbfnhcaaGreat.A
open Go.RowKit Go.Proofs.YtfpeakkbbfnhcaaGreat.D Go.Proofs.YtfpeakkbbfnhcaaGreat.O
def okT (B tb : Nat) (vm : Value) : Nat -> Prop := fun b => B <= b /\ b ≠ tb /\ vm.ownBlock ≠ some b
def ClB (w : World) (B tb : Nat) (vi vf vm : Value) (rs : List (Raw 9)) (c : Cls) : Prop :=
 w.heap[tb]? = some (.cells #[.string c.name,.string c.super,vi,.int .i64 c.kind,vf,vm] 42 (0,0)) /\ B <= tb /\
 RdX 1 (sP strC) (okT B tb vm) w vi c.ifaces /\ RdX 4 (sP fldC) (okT B tb vm) w vf c.fields /\ OwnX 9 49 (sP rawC) w B vm rs /\ All2 (fun r x => mP (okT B tb vm) w (rawC r) x) rs c.methods /\ vm.ownBlock ≠ some tb
theorem ClB.lt {w : World} {B tb : Nat} {vi vf vm : Value} {rs : List (Raw 9)} {c : Cls} (h : ClB w B tb vi vf vm rs c) : tb < w.heap.size := (Array.getElem?_eq_some_iff.1 h.1).1
theorem ClB.cells {w : World} {B tb : Nat} {vi vf vm : Value} {rs : List (Raw 9)} {c : Cls} (h : ClB w B tb vi vf vm rs c) : tb < w.heap.size /\ w.cell? ⟨tb,5,none⟩ = some vm /\ w.frozen? ⟨tb,5,none⟩ = false := by
 refine ⟨h.lt,?_,?_⟩ <;> simp [World.cell?,World.frozen?,h.1]
theorem ClB.below {w w' : World} {B tb : Nat} {vi vf vm : Value} {rs : List (Raw 9)} {c : Cls} (h : ClB w B tb vi vf vm rs c) (hb : Below w.heap.size w w') : ClB w' B tb vi vf vm rs c := by
 have hlt := h.lt
 obtain ⟨h1,h2,h3,h4,h5,h6,h7⟩ := h
 exact ⟨(hb.block _ hlt).trans h1,h2,h3.any (sP.grow _) hb,h4.any (sP.grow _) hb,h5.kptS (.of_below hb : Kpt [] w w') (fun _ _ => by simp),h6.imp (fun r x h => mP.grow _ _ _ _ _ _ h (fun _ h _ => h) (.of_below hb) hb.size),h7⟩
theorem ClB.app {w w1 : World} {B tb : Nat} {vi vf vm v' : Value} {rs : List (Raw 9)} {c : Cls} {r : Raw 9} {m : Mth} (h : ClB w B tb vi vf vm rs c) (hB : B <= w.heap.size) (hm : mP (okT B tb vm) w (rawC r) m) (ho : OwnX 9 49 (sP rawC) w1 B v' (rs ++ [r])) (hg : w.grownBy w1 vm.ownBlock) (hl : v'.ownBlock = vm.ownBlock ∨ v'.ownBlock = some w.heap.size) :
  tb < w1.heap.size /\ w1.cell? ⟨tb,5,none⟩ = some vm /\ w1.frozen? ⟨tb,5,none⟩ = false /\ ClB (w1.setCell ⟨tb,5,none⟩ v') B tb vi vf v' (rs ++ [r]) ⟨c.name,c.super,c.ifaces,c.kind,c.fields,c.methods ++ [m]⟩ /\ Below B w (w1.setCell ⟨tb,5,none⟩ v') := by
 have hlt := h.lt
 obtain ⟨h1,h2,h3,h4,h5,h6,h7⟩ := h
 have hw1 : w1.heap[tb]? = some (.cells #[.string c.name,.string c.super,vi,.int .i64 c.kind,vf,vm] 42 (0,0)) := by rw [hg.block tb hlt (fun e => h7 e.symm)]; exact h1
 have k1 : Kpt vm.ownBlock.toList w w1 := .of_grown hg (fun g e => .inl (by rw [e]; simp))
 have k2 : Kpt [tb] w1 (w1.setCell ⟨tb,5,none⟩ v') := Kpt.set _ _ _ _ _ (by simp)
 have hne : v'.ownBlock ≠ some tb := by
  rcases hl with e | e
  ·rw [e]; exact h7
  ·rw [e]; simp only [ne_eq,Option.some.injEq]; omega
 have kk : Keeps (okT B tb vm) w (w1.setCell ⟨tb,5,none⟩ v') := fun b hb hlb => by
  rw [k2.2 b (Nat.lt_of_lt_of_le hlb hg.size) (by simpa using hb.2.1),k1.2 b hlb (by simpa using fun e => hb.2.2 e)]
 have hoo : ∀ b,okT B tb vm b -> b < w.heap.size -> okT B tb v' b := fun b hb hlb => ⟨hb.1,hb.2.1,by
  rcases hl with e | e
  ·rw [e]; exact hb.2.2
  ·rw [e]; simp only [ne_eq,Option.some.injEq]; omega⟩
 have hsz : w.heap.size <= (w1.setCell ⟨tb,5,none⟩ v').heap.size := Nat.le_trans hg.size k2.size
 refine ⟨Nat.lt_of_lt_of_le hlt hg.size,by simp [World.cell?,hw1],by simp [World.frozen?,hw1],⟨?_,h2,h3.step (sP.grow _) hoo kk hsz,h4.step (sP.grow _) hoo kk hsz,ho.kptS k2 (fun g e => by simp; rintro rfl; exact hne e),?_,hne⟩,?_⟩
 ·rw [heap_setCell_same w1 tb 5 _ _ _ hw1]; rfl
 ·exact (h6.imp (fun r x h => mP.grow _ _ _ _ _ _ h hoo kk hsz)).app ⟨mP.grow _ _ _ _ _ _ hm hoo kk hsz,trivial⟩
 ·have b1 : Below B w w1 := ⟨hg.os,hg.tape,hg.output,hg.size,fun k hk => hg.block k (by omega) (fun e => by have := (h5.lt k e.symm).1; omega)⟩
  exact b1.trans (k2.below (fun x hx => by simp at hx; omega) (Nat.le_trans hB hg.size))
theorem All2.set {α β : Type} {R : α -> β -> Prop} : ∀ {xs : List α} {ys : List β} (i : Nat) {a : α} {b : β},All2 R xs ys -> R a b -> All2 R (xs.set i a) (ys.set i b)
 | [],[],_,_,_,_,_ => trivial
 | _ :: _,_ :: _,0,_,_,h,hab => ⟨hab,h.2⟩
 | _ :: _,_ :: _,i + 1,_,_,h,hab => ⟨h.1,All2.set i h.2 hab⟩
 | [],_ :: _,_,_,_,h,_ => h.elim
 | _ :: _,[],_,_,_,h,_ => h.elim
theorem ClB.code {w : World} {B tb : Nat} {vi vf vm vc : Value} {rs : List (Raw 9)} {c : Cls} (h : ClB w B tb vi vf vm rs c) (hB : B <= w.heap.size) {i : Nat} {r : Raw 9} {m : Mth} {ys : List Ins} (hr : rs[i]? = some r) (hm : c.methods[i]? = some m) (hv : vc.oneCell' = true) (hy : RdX 7 (sP insC) (okT B tb vm) w vc ys) :
  ∃ g cap,vm = .slice (some ⟨g,0,none⟩) rs.length cap /\ g < w.heap.size /\ (∀ k,w.frozen? ⟨g,k,none⟩ = false) /\ (∃ u,w.cell? ⟨g,i * 9 + 7,none⟩ = some u) /\
   (∃ rs',rs'.length = rs.length /\ ClB (w.setCell ⟨g,i * 9 + 7,none⟩ vc) B tb vi vf vm rs' ⟨c.name,c.super,c.ifaces,c.kind,c.fields,c.methods.set i ⟨m.name,m.params,m.ret,m.st,m.ab,m.locals,ys,m.hs⟩⟩) /\ Below B w (w.setCell ⟨g,i * 9 + 7,none⟩ vc) := by
 have hlt := h.lt
 obtain ⟨h1,h2,h3,h4,h5,h6,h7⟩ := h
 have hmp : mP (okT B tb vm) w (rawC r) m := by
  obtain ⟨a,ha,hp⟩ := h6.at i m hm
  rw [hr] at ha
  cases ha
  exact hp
 obtain ⟨vp,vc0,vh,e,p1,p2,p3⟩ := hmp
 have hone : ∀ u ∈ [Value.string m.name,vp,.int .i64 m.ret.1,.string m.ret.2,.bool m.st,.bool m.ab,.int .i64 m.locals,vc,vh],u.oneCell' = true := by
  intro u hu
  have h0 := r.2.2
  rw [show r.1 = _ from e] at h0
  simp only [List.mem_cons,List.not_mem_nil,or_false] at hu
  rcases hu with rfl | rfl | rfl | rfl | rfl | rfl | rfl | rfl | rfl <;> first | exact hv | exact h0 _ (by simp) | rfl
 obtain ⟨g,cap,rfl,e1,e2,e3,e4,e5,e6⟩ := h5.put1 (i := i) (j := 7) (y := (⟨[Value.string m.name,vp,.int .i64 m.ret.1,.string m.ret.2,.bool m.st,.bool m.ab,.int .i64 m.locals,vc,vh],rfl,hone⟩ : Raw 9)) (u := vc) hr (by decide) (by rw [e]; rfl)
 have k2 : Kpt [g] w (w.setCell ⟨g,i * 9 + 7,none⟩ vc) := Kpt.set _ _ _ _ _ (by simp)
 have kk : Keeps (okT B tb (.slice (some ⟨g,0,none⟩) rs.length cap)) w (w.setCell ⟨g,i * 9 + 7,none⟩ vc) := fun b hb hlb => k2.2 b hlb (by simp; intro e; exact hb.2.2 (by rw [e]; rfl))
 have hne : tb ≠ g := fun e => h7 (by rw [e]; rfl)
 have hset := All2.set i (h6.imp (fun r x h => mP.grow _ _ _ _ _ _ h (fun _ h _ => h) kk k2.size)) (a := (⟨[Value.string m.name,vp,.int .i64 m.ret.1,.string m.ret.2,.bool m.st,.bool m.ab,.int .i64 m.locals,vc,vh],rfl,hone⟩ : Raw 9)) (b := (⟨m.name,m.params,m.ret,m.st,m.ab,m.locals,ys,m.hs⟩ : Mth)) ⟨vp,vc,vh,rfl,p1.step (sP.grow _) (fun _ h _ => h) kk k2.size,hy.step (sP.grow _) (fun _ h _ => h) kk k2.size,p3.step (sP.grow _) (fun _ h _ => h) kk k2.size⟩
 refine ⟨g,cap,rfl,e3,e4,⟨_,e5 7 vc0 (by rw [e]; rfl)⟩,⟨_,?_,⟨by rw [k2.2 tb hlt (by simpa using hne)]; exact h1,h2,h3.step (sP.grow _) (fun _ h _ => h) kk k2.size,h4.step (sP.grow _) (fun _ h _ => h) kk k2.size,e6,hset,h7⟩⟩,k2.below (fun x hx => by simp at hx; omega) hB⟩
 rw [List.length_set]
theorem ClB.putLit {w : World} {B tb g n0 : Nat} {vi vf : Value} {rs : List (Raw 9)} {c : Cls} (h : ClB w B tb vi vf (.slice (some ⟨g,0,none⟩) n0 n0) rs c) (hB : B <= w.heap.size) {i : Nat} {r : Raw 9} {m : Mth} (hr : rs[i]? = some r) (hm : c.methods[i]? = some m) (code : List Ins) (lit : Array Value) (hlit : lit.toList = code.flatMap insC) (n : Nat) (hn : n = code.length) :
  tb < (w.alloc (.cells lit 59)).heap.size /\ (w.alloc (.cells lit 59)).cell? ⟨tb,5,none⟩ = some (.slice (some ⟨g,0,none⟩) n0 n0) /\ g < w.heap.size /\ (∃ u,(w.alloc (.cells lit 59)).cell? ⟨g,i * 9 + 7,none⟩ = some u) /\ (w.alloc (.cells lit 59)).frozen? ⟨g,i * 9 + 7,none⟩ = false /\
   ∃ rs',rs'.length = rs.length /\ ClB ((w.alloc (.cells lit 59)).setCell ⟨g,i * 9 + 7,none⟩ (.slice (some ⟨w.heap.size,0,none⟩) n n)) B tb vi vf (.slice (some ⟨g,0,none⟩) n0 n0) rs' ⟨c.name,c.super,c.ifaces,c.kind,c.fields,c.methods.set i ⟨m.name,m.params,m.ret,m.st,m.ab,m.locals,code,m.hs⟩⟩ /\
    Below B w ((w.alloc (.cells lit 59)).setCell ⟨g,i * 9 + 7,none⟩ (.slice (some ⟨w.heap.size,0,none⟩) n n)) := by
 have hbl := below_alM w (.cells lit 59)
 have hlt := h.lt
 have hg := (h.2.2.2.2.1.lt g rfl).2
 have hCc := h.below hbl
 have hBl : B <= (w.alloc (.cells lit 59)).heap.size := Nat.le_trans hB hbl.size
 obtain ⟨d1,d2,d3⟩ := hCc.cells
 have hy := rd_lit_next (Below.refl _ (w.alloc (.cells lit 59))) code hlit insC_len (okT B tb (.slice (some ⟨g,0,none⟩) n0 n0)) ⟨hB,by omega,by simp [Value.ownBlock]; omega⟩ n hn
 obtain ⟨g',cap',e',l1,fz,hu,⟨rs',hrs',hC'⟩,hB'⟩ := hCc.code hBl hr hm rfl hy
 simp only [Value.slice.injEq,Option.some.injEq,Addr.mk.injEq,and_true] at e'
 obtain ⟨rfl,-,-⟩ := e'
 exact ⟨d1,d2,hg,hu,fz _,rs',hrs',hC',(hbl.mono hB).trans hB'⟩
theorem ClB.done {w : World} {B tb : Nat} {vi vf vm : Value} {rs : List (Raw 9)} {c : Cls} (h : ClB w B tb vi vf vm rs c) : cP (fun b => B <= b) w [.string c.name,.string c.super,vi,.int .i64 c.kind,vf,vm] c := by
 obtain ⟨h1,h2,h3,h4,h5,h6,h7⟩ := h
 refine ⟨vi,vf,vm,rfl,h3.step (sP.grow _) (fun _ h _ => h.1) (fun _ _ _ => rfl) (Nat.le_refl _),h4.step (sP.grow _) (fun _ h _ => h.1) (fun _ _ _ => rfl) (Nat.le_refl _),?_⟩
 exact (h5.rd (sP.grow _)).raw (h6.imp (fun r x h => mP.grow _ _ _ _ _ _ h (fun _ h _ => h.1) (fun _ _ _ => rfl) (Nat.le_refl _)))
theorem bit_u8 : ∀ i : Fin 8,∀ k : Fin 256,bits BinOp.and IntKind.u8 (k.1 : Int) ((2 ^ i.1 : Nat) : Int) = if k.1 / 2 ^ i.1 % 2 = 1 then ((2 ^ i.1 : Nat) : Int) else 0 := by decide +kernel
theorem bit_at {k : Nat} (hk : k < 256) (i : Nat) (hi : i < 8) : bits BinOp.and IntKind.u8 (k : Int) ((2 ^ i : Nat) : Int) = if k / 2 ^ i % 2 = 1 then ((2 ^ i : Nat) : Int) else 0 := bit_u8 ⟨i,hi⟩ ⟨k,hk⟩
def rawM (nm : ByteArray) (pp : Option Addr) (np cp : Nat) (k : Int) (c : ByteArray) (st : Bool) (lo : Int) (pc : Option Addr) (nc cc : Nat) : Raw 9 :=
 ⟨[.string nm,.slice pp np cp,.int .i64 k,.string c,.bool st,.bool false,.int .i64 lo,.slice pc nc cc,.slice none 0 0],rfl,by
  intro u hu
  simp only [List.mem_cons,List.not_mem_nil,or_false] at hu
  rcases hu with rfl | rfl | rfl | rfl | rfl | rfl | rfl | rfl | rfl <;> rfl⟩
theorem below_drU (w : World) : Below w.heap.size w w.drew := (Below.refl _ _).drew
theorem tyC_len (t : Ty) : (tyC t).length = 2 := rfl
theorem fldC_len (f : Fld) : (fldC f).length = 4 := rfl
def CAns (c : Cls) (w : World) (e : Ending) (w' : World) : Prop :=
 ∃ pi ni ci pf nf cf pm nm cm,e = .returned (.agg #[.string c.name,.string c.super,.slice pi ni ci,.int .i64 c.kind,.slice pf nf cf,.slice pm nm cm]) /\
  cP (fun b => w.heap.size <= b) w' [.string c.name,.string c.super,.slice pi ni ci,.int .i64 c.kind,.slice pf nf cf,.slice pm nm cm] c /\ Below w.heap.size w w'
theorem util_v (k : Nat) (w : World) (hk : k < 256) : Calls Tryz.prog 30 #[.int .u8 (k : Int)] w (CAns (utilS k) w) := by
 obtain ⟨w1,hw1⟩ : ∃ x,x = w.alloc (.cells #[.string ⟨#[]⟩,.string ⟨#[]⟩,.slice none 0 0,.int .i64 0,.slice none 0 0,.slice none 0 0] 42) := ⟨_,rfl⟩
 have hA : Below w.heap.size w w1 := by rw [hw1]; exact below_alM _ _
 have hx1 : w1.heap[w.heap.size]? = some (.cells #[.string ⟨#[]⟩,.string ⟨#[]⟩,.slice none 0 0,.int .i64 0,.slice none 0 0,.slice none 0 0] 42 (0,0)) := by rw [hw1]; exact heap_alloc_new _ _
 have hlt1 : w.heap.size < w1.heap.size := by rw [hw1]; simp
 have HX := hid hx1
 have HA := hid hA
 clear hx1 hA
 go_enter Tryz.func30,Tryz.ntmps30
 go_wp2_with fail
 rw [<- hw1]
 clear hw1
 refine (typ_v _ _).mono ?_
 rintro e wa ⟨rfl,hba⟩
 have HB := hid hba
 clear hba
 go_wp2_with fail
 refine (typ_v _ _).mono ?_
 rintro e wb ⟨rfl,hbb⟩
 have HT0 := hid (rd_lit_next hbb [tI] rfl tyC_len (fun b => w1.heap.size <= b) HB.out.size 1 rfl)
 replace HB := hid ((HB.out.alloc HB.out.size _).trans (hbb.mono (by have := HB.out.size; simp; omega)))
 clear hbb
 obtain ⟨gT,hgT⟩ : ∃ g,g = wa.heap.size := ⟨_,rfl⟩
 rw [<- hgT] at HT0 ⊢
 clear hgT
 go_wp2_with fail
 obtain ⟨wF,hwF⟩ : ∃ x,x = wb.alloc (.cells #[.string ⟨#[119,97,115,116,101]⟩,.int .i64 1,.string ⟨#[]⟩,.bool true] 87) := ⟨_,rfl⟩
 rw [<- hwF]
 have hzF : wF.heap.size = wb.heap.size + 1 := by rw [hwF]; simp
 obtain ⟨wc,hwc⟩ : ∃ x,x = wF.alloc (.cells #[.string ⟨#[85,116,105,108]⟩,.string ⟨#[79,98,106,101,99,116]⟩,.slice none 0 0,.int .i64 1,.slice (some ⟨wb.heap.size,0,none⟩) 1 1,.slice none 0 0] 42) := ⟨_,rfl⟩
 rw [<- hwc]
 have hbFc : Below wF.heap.size wF wc := by rw [hwc]; exact below_alM _ _
 have hbBc : Below wb.heap.size wb wc := (by rw [hwF]; exact below_alM _ _ : Below wb.heap.size wb wF).trans (hbFc.mono (by omega))
 have hzc : wc.heap.size = wb.heap.size + 2 := by rw [hwc]; simp; omega
 have hcb : wc.heap[wb.heap.size + 1]? = some (.cells #[.string ⟨#[85,116,105,108]⟩,.string ⟨#[79,98,106,101,99,116]⟩,.slice none 0 0,.int .i64 1,.slice (some ⟨wb.heap.size,0,none⟩) 1 1,.slice none 0 0] 42 (0,0)) := by rw [hwc,<- hzF]; exact heap_alloc_new _ _
 rw [hwF] at hbFc
 have HF := hid (rd_lit_next hbFc [(⟨#[119,97,115,116,101]⟩,tI,true)] rfl fldC_len (fun b => w1.heap.size <= b /\ b ≠ wb.heap.size + 1) ⟨HB.out.size,by omega⟩ 1 rfl)
 have HT := hid (HT0.out.step (ok' := fun b => w1.heap.size <= b /\ b ≠ wb.heap.size + 1) (sP.grow _) (fun b h hl => ⟨h,by omega⟩) (.of_below hbBc) hbBc.size)
 have HBT := hid (HB.out.trans (hbBc.mono HB.out.size))
 have hp1 : w1.heap.size <= wc.heap.size := HBT.out.size
 have hp2 : wb.heap.size + 1 < wc.heap.size := by omega
 have htb0 : w1.heap.size <= wb.heap.size + 1 := by have := HB.out.size; omega
 obtain ⟨tb,htb⟩ : ∃ x,x = wb.heap.size + 1 := ⟨_,rfl⟩
 rw [<- htb] at HF HT hcb hp2 htb0 ⊢
 obtain ⟨gF,hgF⟩ : ∃ x,x = wb.heap.size := ⟨_,rfl⟩
 rw [<- hgF] at HF hcb ⊢
 have HCB := hid hcb
 clear hbFc hbBc hzc hcb HT0 htb hgF hwc hwF hzF
 replace HB := hid (Below.refl wc.heap.size wc)
 go_wp2_with ((first | (go_at_call 27; refine (one_x _ _).mono ?_) | (go_at_call 28; refine (at_x _ _ _).mono ?_) | (go_at_call 60; refine (num_x _ _ (by omega)).mono ?_) | (go_at_call 23; refine (typ_v _ _).mono ?_)); rintro e w' ⟨rfl,hb⟩; (first | replace HB := hid (HB.out.trans (hb.mono HB.out.size)) | replace HB := hid ((HB.out.alloc HB.out.size _).trans (hb.mono (by have := HB.out.size; simp; omega)))); clear hb)
 refine (method_v _ _ _ _ _ _ _ _ _ _ _ _).mono ?_
 rintro e wm0 ⟨rfl,hbm⟩
 have HC0 := hid (rd_lit_next hbm [iAt 4 0,iNum 1,iOne 8,iOne 39] rfl insC_len (fun b => w1.heap.size <= b /\ b ≠ tb) ⟨by have := HB.out.size; omega,by have := HB.out.size; omega⟩ 4 rfl)
 obtain ⟨gC0,hgC⟩ : ∃ x,x = w'.heap.size := ⟨_,rfl⟩
 rw [<- hgC] at HC0 ⊢
 clear hgC
 have hadv : Below wc.heap.size wc wm0 := (HB.out.trans ((below_alM _ _).mono HB.out.size)).trans (hbm.mono (by have := HB.out.size; simp; omega))
 replace HF := hid (HF.out.any (sP.grow _) hadv)
 replace HT := hid (HT.out.any (sP.grow _) hadv)
 replace HCB := hid ((hadv.block _ hp2).trans HCB.out)
 replace HBT := hid (HBT.out.trans (hadv.mono hp1))
 replace hp1 : w1.heap.size <= wm0.heap.size := Nat.le_trans hp1 hadv.size
 replace hp2 : tb < wm0.heap.size := Nat.lt_of_lt_of_le hp2 hadv.size
 replace HB := hid (Below.refl wm0.heap.size wm0)
 clear hadv
 clear hbm
 go_wp2_with ((first | (go_at_call 27; refine (one_x _ _).mono ?_) | (go_at_call 28; refine (at_x _ _ _).mono ?_) | (go_at_call 23; refine (typ_v _ _).mono ?_)); rintro e w' ⟨rfl,hb⟩; (first | replace HB := hid (HB.out.trans (hb.mono HB.out.size)) | replace HB := hid ((HB.out.alloc HB.out.size _).trans (hb.mono (by have := HB.out.size; simp; omega)))); clear hb)
 refine (method_v _ _ _ _ _ _ _ _ _ _ _ _).mono ?_
 rintro e wm1 ⟨rfl,hbm⟩
 have HC1 := hid (rd_lit_next hbm [iAt 4 0,iAt 5 2,iAt 4 2,iAt 4 2,iOne 8,iOne 39] rfl insC_len (fun b => w1.heap.size <= b /\ b ≠ tb) ⟨by have := HB.out.size; omega,by have := HB.out.size; omega⟩ 6 rfl)
 obtain ⟨gC1,hgC⟩ : ∃ x,x = w'.heap.size := ⟨_,rfl⟩
 rw [<- hgC] at HC1 ⊢
 clear hgC
 have hadv : Below wm0.heap.size wm0 wm1 := (HB.out.trans ((below_alM _ _).mono HB.out.size)).trans (hbm.mono (by have := HB.out.size; simp; omega))
 replace HF := hid (HF.out.any (sP.grow _) hadv)
 replace HT := hid (HT.out.any (sP.grow _) hadv)
 replace HC0 := hid (HC0.out.any (sP.grow _) hadv)
 replace HCB := hid ((hadv.block _ hp2).trans HCB.out)
 replace HBT := hid (HBT.out.trans (hadv.mono hp1))
 replace hp1 : w1.heap.size <= wm1.heap.size := Nat.le_trans hp1 hadv.size
 replace hp2 : tb < wm1.heap.size := Nat.lt_of_lt_of_le hp2 hadv.size
 replace HB := hid (Below.refl wm1.heap.size wm1)
 clear hadv
 clear hbm
 go_wp2_with ((first | (go_at_call 27; refine (one_x _ _).mono ?_) | (go_at_call 28; refine (at_x _ _ _).mono ?_) | (go_at_call 60; refine (num_x _ _ (by omega)).mono ?_) | (go_at_call 23; refine (typ_v _ _).mono ?_)); rintro e w' ⟨rfl,hb⟩; (first | replace HB := hid (HB.out.trans (hb.mono HB.out.size)) | replace HB := hid ((HB.out.alloc HB.out.size _).trans (hb.mono (by have := HB.out.size; simp; omega)))); clear hb)
 refine (method_v _ _ _ _ _ _ _ _ _ _ _ _).mono ?_
 rintro e wm2 ⟨rfl,hbm⟩
 have HC2 := hid (rd_lit_next hbm [iAt 4 0,iAt 20 3,iNum 7,iNum 3,iOne 39] rfl insC_len (fun b => w1.heap.size <= b /\ b ≠ tb) ⟨by have := HB.out.size; omega,by have := HB.out.size; omega⟩ 5 rfl)
 obtain ⟨gC2,hgC⟩ : ∃ x,x = w'.heap.size := ⟨_,rfl⟩
 rw [<- hgC] at HC2 ⊢
 clear hgC
 have hadv : Below wm1.heap.size wm1 wm2 := (HB.out.trans ((below_alM _ _).mono HB.out.size)).trans (hbm.mono (by have := HB.out.size; simp; omega))
 replace HF := hid (HF.out.any (sP.grow _) hadv)
 replace HT := hid (HT.out.any (sP.grow _) hadv)
 replace HC0 := hid (HC0.out.any (sP.grow _) hadv)
 replace HC1 := hid (HC1.out.any (sP.grow _) hadv)
 replace HCB := hid ((hadv.block _ hp2).trans HCB.out)
 replace HBT := hid (HBT.out.trans (hadv.mono hp1))
 replace hp1 : w1.heap.size <= wm2.heap.size := Nat.le_trans hp1 hadv.size
 replace hp2 : tb < wm2.heap.size := Nat.lt_of_lt_of_le hp2 hadv.size
 replace HB := hid (Below.refl wm2.heap.size wm2)
 clear hadv
 clear hbm
 go_wp2_with ((first | (go_at_call 27; refine (one_x _ _).mono ?_) | (go_at_call 28; refine (at_x _ _ _).mono ?_) | (go_at_call 60; refine (num_x _ _ (by omega)).mono ?_) | (go_at_call 65; refine (call_x _ _ _ _ _).mono ?_) | (go_at_call 23; refine (typ_v _ _).mono ?_)); rintro e w' ⟨rfl,hb⟩; (first | replace HB := hid (HB.out.trans (hb.mono HB.out.size)) | replace HB := hid ((HB.out.alloc HB.out.size _).trans (hb.mono (by have := HB.out.size; simp; omega)))); clear hb)
 refine (method_v _ _ _ _ _ _ _ _ _ _ _ _).mono ?_
 rintro e wm3 ⟨rfl,hbm⟩
 have HC3 := hid (rd_lit_next hbm [iAt 4 0,iNum 1,iOne 14,iAt 20 6,iNum 0,iOne 39,iAt 4 0,iNum 50,iOne 9,iCall 36 ⟨#[85,116,105,108]⟩ ⟨#[100,111,119,110]⟩ ⟨#[40,73,41,73]⟩,iNum 1,iOne 8,iOne 39] rfl insC_len (fun b => w1.heap.size <= b /\ b ≠ tb) ⟨by have := HB.out.size; omega,by have := HB.out.size; omega⟩ 13 rfl)
 obtain ⟨gC3,hgC⟩ : ∃ x,x = w'.heap.size := ⟨_,rfl⟩
 rw [<- hgC] at HC3 ⊢
 clear hgC
 have hadv : Below wm2.heap.size wm2 wm3 := (HB.out.trans ((below_alM _ _).mono HB.out.size)).trans (hbm.mono (by have := HB.out.size; simp; omega))
 replace HF := hid (HF.out.any (sP.grow _) hadv)
 replace HT := hid (HT.out.any (sP.grow _) hadv)
 replace HC0 := hid (HC0.out.any (sP.grow _) hadv)
 replace HC1 := hid (HC1.out.any (sP.grow _) hadv)
 replace HC2 := hid (HC2.out.any (sP.grow _) hadv)
 replace HCB := hid ((hadv.block _ hp2).trans HCB.out)
 replace HBT := hid (HBT.out.trans (hadv.mono hp1))
 replace hp1 : w1.heap.size <= wm3.heap.size := Nat.le_trans hp1 hadv.size
 replace hp2 : tb < wm3.heap.size := Nat.lt_of_lt_of_le hp2 hadv.size
 replace HB := hid (Below.refl wm3.heap.size wm3)
 clear hadv
 clear hbm
 go_wp2_with fail
 refine (ref_v _ _).mono ?_
 rintro e wr4 ⟨rfl,hbr⟩
 go_wp2_with fail
 refine (ref_v _ _).mono ?_
 rintro e wq4 ⟨rfl,hbq⟩
 have HP4 := hid (rd_lit_next hbq [tR ⟨#[66,97,115,101]⟩] rfl tyC_len (fun b => w1.heap.size <= b /\ b ≠ tb) ⟨by have := hbr.size; omega,by have := hbr.size; omega⟩ 1 rfl)
 obtain ⟨gP4,hgP⟩ : ∃ x,x = wr4.heap.size := ⟨_,rfl⟩
 rw [<- hgP] at HP4 ⊢
 clear hgP
 have hadv : Below wm3.heap.size wm3 wq4 := (hbr.trans ((below_alM wr4 _).mono hbr.size)).trans (hbq.mono (by have := hbr.size; simp; omega))
 replace HF := hid (HF.out.any (sP.grow _) hadv)
 replace HT := hid (HT.out.any (sP.grow _) hadv)
 replace HC0 := hid (HC0.out.any (sP.grow _) hadv)
 replace HC1 := hid (HC1.out.any (sP.grow _) hadv)
 replace HC2 := hid (HC2.out.any (sP.grow _) hadv)
 replace HC3 := hid (HC3.out.any (sP.grow _) hadv)
 replace HCB := hid ((hadv.block _ hp2).trans HCB.out)
 replace HBT := hid (HBT.out.trans (hadv.mono hp1))
 replace hp1 : w1.heap.size <= wq4.heap.size := Nat.le_trans hp1 hadv.size
 replace hp2 : tb < wq4.heap.size := Nat.lt_of_lt_of_le hp2 hadv.size
 replace HB := hid (Below.refl wq4.heap.size wq4)
 clear hadv
 clear hbr hbq
 go_wp2_with ((first | (go_at_call 27; refine (one_x _ _).mono ?_) | (go_at_call 28; refine (at_x _ _ _).mono ?_)); rintro e w' ⟨rfl,hb⟩; (first | replace HB := hid (HB.out.trans (hb.mono HB.out.size)) | replace HB := hid ((HB.out.alloc HB.out.size _).trans (hb.mono (by have := HB.out.size; simp; omega)))); clear hb)
 refine (method_v _ _ _ _ _ _ _ _ _ _ _ _).mono ?_
 rintro e wm4 ⟨rfl,hbm⟩
 have HC4 := hid (rd_lit_next hbm [iAt 4 0,iOne 39] rfl insC_len (fun b => w1.heap.size <= b /\ b ≠ tb) ⟨by have := HB.out.size; omega,by have := HB.out.size; omega⟩ 2 rfl)
 obtain ⟨gC4,hgC⟩ : ∃ x,x = w'.heap.size := ⟨_,rfl⟩
 rw [<- hgC] at HC4 ⊢
 clear hgC
 have hadv : Below wq4.heap.size wq4 wm4 := (HB.out.trans ((below_alM _ _).mono HB.out.size)).trans (hbm.mono (by have := HB.out.size; simp; omega))
 replace HF := hid (HF.out.any (sP.grow _) hadv)
 replace HT := hid (HT.out.any (sP.grow _) hadv)
 replace HC0 := hid (HC0.out.any (sP.grow _) hadv)
 replace HC1 := hid (HC1.out.any (sP.grow _) hadv)
 replace HC2 := hid (HC2.out.any (sP.grow _) hadv)
 replace HC3 := hid (HC3.out.any (sP.grow _) hadv)
 replace HP4 := hid (HP4.out.any (sP.grow _) hadv)
 replace HCB := hid ((hadv.block _ hp2).trans HCB.out)
 replace HBT := hid (HBT.out.trans (hadv.mono hp1))
 replace hp1 : w1.heap.size <= wm4.heap.size := Nat.le_trans hp1 hadv.size
 replace hp2 : tb < wm4.heap.size := Nat.lt_of_lt_of_le hp2 hadv.size
 replace HB := hid (Below.refl wm4.heap.size wm4)
 clear hadv
 clear hbm
 go_wp2_with fail
 refine (ref_v _ _).mono ?_
 rintro e wr5 ⟨rfl,hbr⟩
 go_wp2_with fail
 refine (ref_v _ _).mono ?_
 rintro e wq5 ⟨rfl,hbq⟩
 have HP5 := hid (rd_lit_next hbq [tR ⟨#[73]⟩] rfl tyC_len (fun b => w1.heap.size <= b /\ b ≠ tb) ⟨by have := hbr.size; omega,by have := hbr.size; omega⟩ 1 rfl)
 obtain ⟨gP5,hgP⟩ : ∃ x,x = wr5.heap.size := ⟨_,rfl⟩
 rw [<- hgP] at HP5 ⊢
 clear hgP
 have hadv : Below wm4.heap.size wm4 wq5 := (hbr.trans ((below_alM wr5 _).mono hbr.size)).trans (hbq.mono (by have := hbr.size; simp; omega))
 replace HF := hid (HF.out.any (sP.grow _) hadv)
 replace HT := hid (HT.out.any (sP.grow _) hadv)
 replace HC0 := hid (HC0.out.any (sP.grow _) hadv)
 replace HC1 := hid (HC1.out.any (sP.grow _) hadv)
 replace HC2 := hid (HC2.out.any (sP.grow _) hadv)
 replace HC3 := hid (HC3.out.any (sP.grow _) hadv)
 replace HP4 := hid (HP4.out.any (sP.grow _) hadv)
 replace HC4 := hid (HC4.out.any (sP.grow _) hadv)
 replace HCB := hid ((hadv.block _ hp2).trans HCB.out)
 replace HBT := hid (HBT.out.trans (hadv.mono hp1))
 replace hp1 : w1.heap.size <= wq5.heap.size := Nat.le_trans hp1 hadv.size
 replace hp2 : tb < wq5.heap.size := Nat.lt_of_lt_of_le hp2 hadv.size
 replace HB := hid (Below.refl wq5.heap.size wq5)
 clear hadv
 clear hbr hbq
 go_wp2_with ((first | (go_at_call 27; refine (one_x _ _).mono ?_) | (go_at_call 28; refine (at_x _ _ _).mono ?_)); rintro e w' ⟨rfl,hb⟩; (first | replace HB := hid (HB.out.trans (hb.mono HB.out.size)) | replace HB := hid ((HB.out.alloc HB.out.size _).trans (hb.mono (by have := HB.out.size; simp; omega)))); clear hb)
 refine (method_v _ _ _ _ _ _ _ _ _ _ _ _).mono ?_
 rintro e wm5 ⟨rfl,hbm⟩
 have HC5 := hid (rd_lit_next hbm [iAt 4 0,iOne 39] rfl insC_len (fun b => w1.heap.size <= b /\ b ≠ tb) ⟨by have := HB.out.size; omega,by have := HB.out.size; omega⟩ 2 rfl)
 obtain ⟨gC5,hgC⟩ : ∃ x,x = w'.heap.size := ⟨_,rfl⟩
 rw [<- hgC] at HC5 ⊢
 clear hgC
 have hadv : Below wq5.heap.size wq5 wm5 := (HB.out.trans ((below_alM _ _).mono HB.out.size)).trans (hbm.mono (by have := HB.out.size; simp; omega))
 replace HF := hid (HF.out.any (sP.grow _) hadv)
 replace HT := hid (HT.out.any (sP.grow _) hadv)
 replace HC0 := hid (HC0.out.any (sP.grow _) hadv)
 replace HC1 := hid (HC1.out.any (sP.grow _) hadv)
 replace HC2 := hid (HC2.out.any (sP.grow _) hadv)
 replace HC3 := hid (HC3.out.any (sP.grow _) hadv)
 replace HP4 := hid (HP4.out.any (sP.grow _) hadv)
 replace HC4 := hid (HC4.out.any (sP.grow _) hadv)
 replace HP5 := hid (HP5.out.any (sP.grow _) hadv)
 replace HCB := hid ((hadv.block _ hp2).trans HCB.out)
 replace HBT := hid (HBT.out.trans (hadv.mono hp1))
 replace hp1 : w1.heap.size <= wm5.heap.size := Nat.le_trans hp1 hadv.size
 replace hp2 : tb < wm5.heap.size := Nat.lt_of_lt_of_le hp2 hadv.size
 replace HB := hid (Below.refl wm5.heap.size wm5)
 clear hadv
 clear hbm
 go_wp2_with ((first | (go_at_call 27; refine (one_x _ _).mono ?_) | (go_at_call 26; refine (of_x _ _ _).mono ?_) | (go_at_call 23; refine (typ_v _ _).mono ?_)); rintro e w' ⟨rfl,hb⟩; (first | replace HB := hid (HB.out.trans (hb.mono HB.out.size)) | replace HB := hid ((HB.out.alloc HB.out.size _).trans (hb.mono (by have := HB.out.size; simp; omega)))); clear hb)
 refine (method_v _ _ _ _ _ _ _ _ _ _ _ _).mono ?_
 rintro e wm6 ⟨rfl,hbm⟩
 have HC6 := hid (rd_lit_next hbm [iOf 25 ⟨#[69,114,114,50]⟩,iOne 38] rfl insC_len (fun b => w1.heap.size <= b /\ b ≠ tb) ⟨by have := HB.out.size; omega,by have := HB.out.size; omega⟩ 2 rfl)
 obtain ⟨gC6,hgC⟩ : ∃ x,x = w'.heap.size := ⟨_,rfl⟩
 rw [<- hgC] at HC6 ⊢
 clear hgC
 have hadv : Below wm5.heap.size wm5 wm6 := (HB.out.trans ((below_alM _ _).mono HB.out.size)).trans (hbm.mono (by have := HB.out.size; simp; omega))
 replace HF := hid (HF.out.any (sP.grow _) hadv)
 replace HT := hid (HT.out.any (sP.grow _) hadv)
 replace HC0 := hid (HC0.out.any (sP.grow _) hadv)
 replace HC1 := hid (HC1.out.any (sP.grow _) hadv)
 replace HC2 := hid (HC2.out.any (sP.grow _) hadv)
 replace HC3 := hid (HC3.out.any (sP.grow _) hadv)
 replace HP4 := hid (HP4.out.any (sP.grow _) hadv)
 replace HC4 := hid (HC4.out.any (sP.grow _) hadv)
 replace HP5 := hid (HP5.out.any (sP.grow _) hadv)
 replace HC5 := hid (HC5.out.any (sP.grow _) hadv)
 replace HCB := hid ((hadv.block _ hp2).trans HCB.out)
 replace HBT := hid (HBT.out.trans (hadv.mono hp1))
 replace hp1 : w1.heap.size <= wm6.heap.size := Nat.le_trans hp1 hadv.size
 replace hp2 : tb < wm6.heap.size := Nat.lt_of_lt_of_le hp2 hadv.size
 replace HB := hid (Below.refl wm6.heap.size wm6)
 clear hadv
 clear hbm
 go_wp2_with ((first | (go_at_call 27; refine (one_x _ _).mono ?_) | (go_at_call 61; refine (str_x _ _).mono ?_) | (go_at_call 23; refine (typ_v _ _).mono ?_)); rintro e w' ⟨rfl,hb⟩; (first | replace HB := hid (HB.out.trans (hb.mono HB.out.size)) | replace HB := hid ((HB.out.alloc HB.out.size _).trans (hb.mono (by have := HB.out.size; simp; omega)))); clear hb)
 refine (method_v _ _ _ _ _ _ _ _ _ _ _ _).mono ?_
 rintro e wm7 ⟨rfl,hbm⟩
 have HC7 := hid (rd_lit_next hbm [iStr ⟨#[115,104,111,119]⟩,iOne 41,iOne 40] rfl insC_len (fun b => w1.heap.size <= b /\ b ≠ tb) ⟨by have := HB.out.size; omega,by have := HB.out.size; omega⟩ 3 rfl)
 obtain ⟨gC7,hgC⟩ : ∃ x,x = w'.heap.size := ⟨_,rfl⟩
 rw [<- hgC] at HC7 ⊢
 clear hgC
 have hadv : Below wm6.heap.size wm6 wm7 := (HB.out.trans ((below_alM _ _).mono HB.out.size)).trans (hbm.mono (by have := HB.out.size; simp; omega))
 replace HF := hid (HF.out.any (sP.grow _) hadv)
 replace HT := hid (HT.out.any (sP.grow _) hadv)
 replace HC0 := hid (HC0.out.any (sP.grow _) hadv)
 replace HC1 := hid (HC1.out.any (sP.grow _) hadv)
 replace HC2 := hid (HC2.out.any (sP.grow _) hadv)
 replace HC3 := hid (HC3.out.any (sP.grow _) hadv)
 replace HP4 := hid (HP4.out.any (sP.grow _) hadv)
 replace HC4 := hid (HC4.out.any (sP.grow _) hadv)
 replace HP5 := hid (HP5.out.any (sP.grow _) hadv)
 replace HC5 := hid (HC5.out.any (sP.grow _) hadv)
 replace HC6 := hid (HC6.out.any (sP.grow _) hadv)
 replace HCB := hid ((hadv.block _ hp2).trans HCB.out)
 replace HBT := hid (HBT.out.trans (hadv.mono hp1))
 replace hp1 : w1.heap.size <= wm7.heap.size := Nat.le_trans hp1 hadv.size
 replace hp2 : tb < wm7.heap.size := Nat.lt_of_lt_of_le hp2 hadv.size
 replace HB := hid (Below.refl wm7.heap.size wm7)
 clear hadv
 clear hbm
 go_wp2_with ((first | (go_at_call 27; refine (one_x _ _).mono ?_) | (go_at_call 28; refine (at_x _ _ _).mono ?_) | (go_at_call 65; refine (call_x _ _ _ _ _).mono ?_) | (go_at_call 23; refine (typ_v _ _).mono ?_)); rintro e w' ⟨rfl,hb⟩; (first | replace HB := hid (HB.out.trans (hb.mono HB.out.size)) | replace HB := hid ((HB.out.alloc HB.out.size _).trans (hb.mono (by have := HB.out.size; simp; omega)))); clear hb)
 refine (method_v _ _ _ _ _ _ _ _ _ _ _ _).mono ?_
 rintro e wm8 ⟨rfl,hbm⟩
 have HC8 := hid (rd_lit_next hbm [iAt 4 0,iCall 36 ⟨#[71,111,110,101]⟩ ⟨#[102]⟩ ⟨#[40,73,41,73]⟩,iOne 39] rfl insC_len (fun b => w1.heap.size <= b /\ b ≠ tb) ⟨by have := HB.out.size; omega,by have := HB.out.size; omega⟩ 3 rfl)
 obtain ⟨gC8,hgC⟩ : ∃ x,x = w'.heap.size := ⟨_,rfl⟩
 rw [<- hgC] at HC8 ⊢
 clear hgC
 have hadv : Below wm7.heap.size wm7 wm8 := (HB.out.trans ((below_alM _ _).mono HB.out.size)).trans (hbm.mono (by have := HB.out.size; simp; omega))
 replace HF := hid (HF.out.any (sP.grow _) hadv)
 replace HT := hid (HT.out.any (sP.grow _) hadv)
 replace HC0 := hid (HC0.out.any (sP.grow _) hadv)
 replace HC1 := hid (HC1.out.any (sP.grow _) hadv)
 replace HC2 := hid (HC2.out.any (sP.grow _) hadv)
 replace HC3 := hid (HC3.out.any (sP.grow _) hadv)
 replace HP4 := hid (HP4.out.any (sP.grow _) hadv)
 replace HC4 := hid (HC4.out.any (sP.grow _) hadv)
 replace HP5 := hid (HP5.out.any (sP.grow _) hadv)
 replace HC5 := hid (HC5.out.any (sP.grow _) hadv)
 replace HC6 := hid (HC6.out.any (sP.grow _) hadv)
 replace HC7 := hid (HC7.out.any (sP.grow _) hadv)
 replace HCB := hid ((hadv.block _ hp2).trans HCB.out)
 replace HBT := hid (HBT.out.trans (hadv.mono hp1))
 replace hp1 : w1.heap.size <= wm8.heap.size := Nat.le_trans hp1 hadv.size
 replace hp2 : tb < wm8.heap.size := Nat.lt_of_lt_of_le hp2 hadv.size
 replace HB := hid (Below.refl wm8.heap.size wm8)
 clear hadv
 clear hbm
 have hq5 : wm8.cell? ⟨tb,5,none⟩ = some (.slice none 0 0) := by simp [World.cell?,HCB.out]
 have hf5 : wm8.frozen? ⟨tb,5,none⟩ = false := by simp [World.frozen?,HCB.out]
 go_wp2_with fail
 obtain ⟨W5,hW5⟩ : ∃ x,x = wm8.setCell ⟨tb,5,none⟩ (.slice (some ⟨wm8.heap.size,0,none⟩) 9 9) := ⟨_,rfl⟩
 obtain ⟨w5,hw5⟩ : ∃ x,x = W5.alloc (.cells #[.string ⟨#[105,110,99]⟩,.slice (some ⟨gT,0,none⟩) 1 1,.int .i64 1,.string ⟨#[]⟩,.bool true,.bool false,.int .i64 1,.slice (some ⟨gC0,0,none⟩) 4 4,.slice none 0 0,.string ⟨#[116,119,105,99,101]⟩,.slice (some ⟨gT,0,none⟩) 1 1,.int .i64 1,.string ⟨#[]⟩,.bool true,.bool false,.int .i64 3,.slice (some ⟨gC1,0,none⟩) 6 6,.slice none 0 0,.string ⟨#[119,111,114,107]⟩,.slice (some ⟨gT,0,none⟩) 1 1,.int .i64 1,.string ⟨#[]⟩,.bool true,.bool false,.int .i64 1,.slice (some ⟨gC2,0,none⟩) 5 5,.slice none 0 0,.string ⟨#[100,111,119,110]⟩,.slice (some ⟨gT,0,none⟩) 1 1,.int .i64 1,.string ⟨#[]⟩,.bool true,.bool false,.int .i64 1,.slice (some ⟨gC3,0,none⟩) 13 13,.slice none 0 0,.string ⟨#[115,97,109,101]⟩,.slice (some ⟨gP4,0,none⟩) 1 1,.int .i64 4,.string ⟨#[66,97,115,101]⟩,.bool true,.bool false,.int .i64 1,.slice (some ⟨gC4,0,none⟩) 2 2,.slice none 0 0,.string ⟨#[112,97,115,115]⟩,.slice (some ⟨gP5,0,none⟩) 1 1,.int .i64 4,.string ⟨#[73]⟩,.bool true,.bool false,.int .i64 1,.slice (some ⟨gC5,0,none⟩) 2 2,.slice none 0 0,.string ⟨#[102,97,105,108]⟩,.slice none 0 0,.int .i64 5,.string ⟨#[]⟩,.bool true,.bool false,.int .i64 0,.slice (some ⟨gC6,0,none⟩) 2 2,.slice none 0 0,.string ⟨#[115,104,111,119]⟩,.slice none 0 0,.int .i64 5,.string ⟨#[]⟩,.bool true,.bool false,.int .i64 0,.slice (some ⟨gC7,0,none⟩) 3 3,.slice none 0 0,.string ⟨#[100,101,97,100]⟩,.slice (some ⟨gT,0,none⟩) 1 1,.int .i64 1,.string ⟨#[]⟩,.bool true,.bool false,.int .i64 1,.slice (some ⟨gC8,0,none⟩) 3 3,.slice none 0 0] 49) := ⟨_,rfl⟩
 rw [<- hW5,<- hw5]
 have kS : Kpt [tb] wm8 W5 := by rw [hW5]; exact Kpt.set _ _ _ _ _ (by simp)
 have hzS : W5.heap.size = wm8.heap.size := by rw [hW5]; simp
 have bA : Below W5.heap.size W5 w5 := by rw [hw5]; exact below_alM _ _
 have kA : Kpt [tb] wm8 w5 := kS.trans (.of_below bA : Kpt [tb] W5 w5) (fun x hx => .inl hx)
 have hol : OwnX 9 49 (sP rawC) w5 wm8.heap.size (.slice (some ⟨wm8.heap.size,0,none⟩) 9 9) [rawM ⟨#[105,110,99]⟩ (some ⟨gT,0,none⟩) 1 1 1 ⟨#[]⟩ true 1 (some ⟨gC0,0,none⟩) 4 4,rawM ⟨#[116,119,105,99,101]⟩ (some ⟨gT,0,none⟩) 1 1 1 ⟨#[]⟩ true 3 (some ⟨gC1,0,none⟩) 6 6,rawM ⟨#[119,111,114,107]⟩ (some ⟨gT,0,none⟩) 1 1 1 ⟨#[]⟩ true 1 (some ⟨gC2,0,none⟩) 5 5,rawM ⟨#[100,111,119,110]⟩ (some ⟨gT,0,none⟩) 1 1 1 ⟨#[]⟩ true 1 (some ⟨gC3,0,none⟩) 13 13,rawM ⟨#[115,97,109,101]⟩ (some ⟨gP4,0,none⟩) 1 1 4 ⟨#[66,97,115,101]⟩ true 1 (some ⟨gC4,0,none⟩) 2 2,rawM ⟨#[112,97,115,115]⟩ (some ⟨gP5,0,none⟩) 1 1 4 ⟨#[73]⟩ true 1 (some ⟨gC5,0,none⟩) 2 2,rawM ⟨#[102,97,105,108]⟩ none 0 0 5 ⟨#[]⟩ true 0 (some ⟨gC6,0,none⟩) 2 2,rawM ⟨#[115,104,111,119]⟩ none 0 0 5 ⟨#[]⟩ true 0 (some ⟨gC7,0,none⟩) 3 3,rawM ⟨#[100,101,97,100]⟩ (some ⟨gT,0,none⟩) 1 1 1 ⟨#[]⟩ true 1 (some ⟨gC8,0,none⟩) 3 3] := by rw [hw5,<- hzS]; exact OwnX.lits rawC_len W5 [rawM ⟨#[105,110,99]⟩ (some ⟨gT,0,none⟩) 1 1 1 ⟨#[]⟩ true 1 (some ⟨gC0,0,none⟩) 4 4,rawM ⟨#[116,119,105,99,101]⟩ (some ⟨gT,0,none⟩) 1 1 1 ⟨#[]⟩ true 3 (some ⟨gC1,0,none⟩) 6 6,rawM ⟨#[119,111,114,107]⟩ (some ⟨gT,0,none⟩) 1 1 1 ⟨#[]⟩ true 1 (some ⟨gC2,0,none⟩) 5 5,rawM ⟨#[100,111,119,110]⟩ (some ⟨gT,0,none⟩) 1 1 1 ⟨#[]⟩ true 1 (some ⟨gC3,0,none⟩) 13 13,rawM ⟨#[115,97,109,101]⟩ (some ⟨gP4,0,none⟩) 1 1 4 ⟨#[66,97,115,101]⟩ true 1 (some ⟨gC4,0,none⟩) 2 2,rawM ⟨#[112,97,115,115]⟩ (some ⟨gP5,0,none⟩) 1 1 4 ⟨#[73]⟩ true 1 (some ⟨gC5,0,none⟩) 2 2,rawM ⟨#[102,97,105,108]⟩ none 0 0 5 ⟨#[]⟩ true 0 (some ⟨gC6,0,none⟩) 2 2,rawM ⟨#[115,104,111,119]⟩ none 0 0 5 ⟨#[]⟩ true 0 (some ⟨gC7,0,none⟩) 3 3,rawM ⟨#[100,101,97,100]⟩ (some ⟨gT,0,none⟩) 1 1 1 ⟨#[]⟩ true 1 (some ⟨gC8,0,none⟩) 3 3] _ rfl 9 rfl (by decide)
 have hoo : ∀ b,w1.heap.size <= b /\ b ≠ tb -> b < wm8.heap.size -> okT w1.heap.size tb (.slice (some ⟨wm8.heap.size,0,none⟩) 9 9) b := fun b hb hl => ⟨hb.1,hb.2,by simp [Value.ownBlock]; omega⟩
 have kk : Keeps (fun b => w1.heap.size <= b /\ b ≠ tb) wm8 w5 := .of_kpt kA (fun b hb => by simpa using hb.2)
 have hct : w5.heap[tb]? = some (.cells #[.string ⟨#[85,116,105,108]⟩,.string ⟨#[79,98,106,101,99,116]⟩,.slice none 0 0,.int .i64 1,.slice (some ⟨gF,0,none⟩) 1 1,.slice (some ⟨wm8.heap.size,0,none⟩) 9 9] 42 (0,0)) := by rw [bA.block _ (by omega),hW5,heap_setCell_same wm8 tb 5 _ _ _ HCB.out]; rfl
 have hCl : ClB w5 w1.heap.size tb (.slice none 0 0) (.slice (some ⟨gF,0,none⟩) 1 1) (.slice (some ⟨wm8.heap.size,0,none⟩) 9 9) [rawM ⟨#[105,110,99]⟩ (some ⟨gT,0,none⟩) 1 1 1 ⟨#[]⟩ true 1 (some ⟨gC0,0,none⟩) 4 4,rawM ⟨#[116,119,105,99,101]⟩ (some ⟨gT,0,none⟩) 1 1 1 ⟨#[]⟩ true 3 (some ⟨gC1,0,none⟩) 6 6,rawM ⟨#[119,111,114,107]⟩ (some ⟨gT,0,none⟩) 1 1 1 ⟨#[]⟩ true 1 (some ⟨gC2,0,none⟩) 5 5,rawM ⟨#[100,111,119,110]⟩ (some ⟨gT,0,none⟩) 1 1 1 ⟨#[]⟩ true 1 (some ⟨gC3,0,none⟩) 13 13,rawM ⟨#[115,97,109,101]⟩ (some ⟨gP4,0,none⟩) 1 1 4 ⟨#[66,97,115,101]⟩ true 1 (some ⟨gC4,0,none⟩) 2 2,rawM ⟨#[112,97,115,115]⟩ (some ⟨gP5,0,none⟩) 1 1 4 ⟨#[73]⟩ true 1 (some ⟨gC5,0,none⟩) 2 2,rawM ⟨#[102,97,105,108]⟩ none 0 0 5 ⟨#[]⟩ true 0 (some ⟨gC6,0,none⟩) 2 2,rawM ⟨#[115,104,111,119]⟩ none 0 0 5 ⟨#[]⟩ true 0 (some ⟨gC7,0,none⟩) 3 3,rawM ⟨#[100,101,97,100]⟩ (some ⟨gT,0,none⟩) 1 1 1 ⟨#[]⟩ true 1 (some ⟨gC8,0,none⟩) 3 3] ⟨⟨#[85,116,105,108]⟩,⟨#[79,98,106,101,99,116]⟩,[],1,[(⟨#[119,97,115,116,101]⟩,tI,true)],[mthS ⟨#[105,110,99]⟩ [tI] tI true 1 [iAt 4 0,iNum 1,iOne 8,iOne 39],mthS ⟨#[116,119,105,99,101]⟩ [tI] tI true 3 [iAt 4 0,iAt 5 2,iAt 4 2,iAt 4 2,iOne 8,iOne 39],mthS ⟨#[119,111,114,107]⟩ [tI] tI true 1 [iAt 4 0,iAt 20 3,iNum 7,iNum 3,iOne 39],mthS ⟨#[100,111,119,110]⟩ [tI] tI true 1 [iAt 4 0,iNum 1,iOne 14,iAt 20 6,iNum 0,iOne 39,iAt 4 0,iNum 50,iOne 9,iCall 36 ⟨#[85,116,105,108]⟩ ⟨#[100,111,119,110]⟩ ⟨#[40,73,41,73]⟩,iNum 1,iOne 8,iOne 39],mthS ⟨#[115,97,109,101]⟩ [tR ⟨#[66,97,115,101]⟩] (tR ⟨#[66,97,115,101]⟩) true 1 [iAt 4 0,iOne 39],mthS ⟨#[112,97,115,115]⟩ [tR ⟨#[73]⟩] (tR ⟨#[73]⟩) true 1 [iAt 4 0,iOne 39],mthS ⟨#[102,97,105,108]⟩ [] tV true 0 [iOf 25 ⟨#[69,114,114,50]⟩,iOne 38],mthS ⟨#[115,104,111,119]⟩ [] tV true 0 [iStr ⟨#[115,104,111,119]⟩,iOne 41,iOne 40],mthS ⟨#[100,101,97,100]⟩ [tI] tI true 1 [iAt 4 0,iCall 36 ⟨#[71,111,110,101]⟩ ⟨#[102]⟩ ⟨#[40,73,41,73]⟩,iOne 39]]⟩ :=
  ⟨hct,htb0,RdX.nil _ _ _ _,HF.out.step (sP.grow _) hoo kk kA.size,hol.mono (sP.grow _) hp1,⟨⟨_,_,_,rfl,HT.out.step (sP.grow _) hoo kk kA.size,HC0.out.step (sP.grow _) hoo kk kA.size,RdX.nil _ _ _ _⟩,⟨_,_,_,rfl,HT.out.step (sP.grow _) hoo kk kA.size,HC1.out.step (sP.grow _) hoo kk kA.size,RdX.nil _ _ _ _⟩,⟨_,_,_,rfl,HT.out.step (sP.grow _) hoo kk kA.size,HC2.out.step (sP.grow _) hoo kk kA.size,RdX.nil _ _ _ _⟩,⟨_,_,_,rfl,HT.out.step (sP.grow _) hoo kk kA.size,HC3.out.step (sP.grow _) hoo kk kA.size,RdX.nil _ _ _ _⟩,⟨_,_,_,rfl,HP4.out.step (sP.grow _) hoo kk kA.size,HC4.out.step (sP.grow _) hoo kk kA.size,RdX.nil _ _ _ _⟩,⟨_,_,_,rfl,HP5.out.step (sP.grow _) hoo kk kA.size,HC5.out.step (sP.grow _) hoo kk kA.size,RdX.nil _ _ _ _⟩,⟨_,_,_,rfl,RdX.nil _ _ _ _,HC6.out.step (sP.grow _) hoo kk kA.size,RdX.nil _ _ _ _⟩,⟨_,_,_,rfl,RdX.nil _ _ _ _,HC7.out.step (sP.grow _) hoo kk kA.size,RdX.nil _ _ _ _⟩,⟨_,_,_,rfl,HT.out.step (sP.grow _) hoo kk kA.size,HC8.out.step (sP.grow _) hoo kk kA.size,RdX.nil _ _ _ _⟩,trivial⟩,by simp [Value.ownBlock]; omega⟩
 have hBw : Below w1.heap.size w1 w5 := HBT.out.trans (kA.below (fun x hx => by simp at hx; omega) hp1)
 have HCl := hid hCl
 have HBw := hid hBw
 clear hCl hBw hct kk hoo hol kA bA hzS kS hw5 hW5 hq5 hf5 HB HBT HCB HF HT hp1 hp2 HC0 HC1 HC2 HC3 HC4 HC5 HC6 HC7 HC8 HP4 HP5
 have HCx := hid (HCl.out.below (below_drU w5))
 have HBx : Hid (Below w1.heap.size w1 w5.drew) := hid (HBw.out.trans ((below_drU w5).mono HBw.out.size))
 refine wp_region_held_drew (S := fun W => W.cell? ⟨tb,5,none⟩ = some (.slice (some ⟨wm8.heap.size,0,none⟩) 9 9)) (by kernel_rfl) HCx.out.cells.2.1 (fun hh => ?_)
 refine tkA 0 _ hh ?_
 try go_frame
 refine tkB 1 _ hh ?_
 try go_frame
 refine rdH [2] ?_
 refine rcH (fun K hK => ?_) AllReadyH.nil
 clear hh
 go_simp
 refine (at_x _ _ _).mono ?_
 rintro e x2 ⟨rfl,hb⟩
 replace HCx := hid (HCx.out.below hb)
 replace HBx := hid (HBx.out.trans (hb.mono HBx.out.size))
 clear hb
 refine hK.out _ _ HCx.out.cells.2.1 (fun hh => ?_)
 clear hK K
 try go_frame
 refine rdH [3] ?_
 refine rcH (fun K hK => ?_) AllReadyH.nil
 clear hh
 go_simp
 refine (at_x _ _ _).mono ?_
 rintro e x3 ⟨rfl,hb⟩
 replace HCx := hid (HCx.out.below hb)
 replace HBx := hid (HBx.out.trans (hb.mono HBx.out.size))
 clear hb
 refine hK.out _ _ HCx.out.cells.2.1 (fun hh => ?_)
 clear hK K
 try go_frame
 refine rdH [4] ?_
 refine rcH (fun K hK => ?_) AllReadyH.nil
 clear hh
 go_simp
 refine (num_x _ _ (by omega)).mono ?_
 rintro e x4 ⟨rfl,hb⟩
 replace HCx := hid (HCx.out.below hb)
 replace HBx := hid (HBx.out.trans (hb.mono HBx.out.size))
 clear hb
 refine hK.out _ _ HCx.out.cells.2.1 (fun hh => ?_)
 clear hK K
 try go_frame
 refine rdH [5] ?_
 refine rcH (fun K hK => ?_) AllReadyH.nil
 clear hh
 go_simp
 refine (one_x _ _).mono ?_
 rintro e x5 ⟨rfl,hb⟩
 replace HCx := hid (HCx.out.below hb)
 replace HBx := hid (HBx.out.trans (hb.mono HBx.out.size))
 clear hb
 refine hK.out _ _ HCx.out.cells.2.1 (fun hh => ?_)
 clear hK K
 try go_frame
 refine rdH [6] ?_
 refine rcH (fun K hK => ?_) AllReadyH.nil
 clear hh
 go_simp
 refine (num_x _ _ (by omega)).mono ?_
 rintro e x6 ⟨rfl,hb⟩
 replace HCx := hid (HCx.out.below hb)
 replace HBx := hid (HBx.out.trans (hb.mono HBx.out.size))
 clear hb
 refine hK.out _ _ HCx.out.cells.2.1 (fun hh => ?_)
 clear hK K
 try go_frame
 refine rdH [7] ?_
 refine rcH (fun K hK => ?_) AllReadyH.nil
 clear hh
 go_simp
 refine (one_x _ _).mono ?_
 rintro e x7 ⟨rfl,hb⟩
 replace HCx := hid (HCx.out.below hb)
 replace HBx := hid (HBx.out.trans (hb.mono HBx.out.size))
 clear hb
 refine hK.out _ _ HCx.out.cells.2.1 (fun hh => ?_)
 clear hK K
 try go_frame
 refine rdH [8] ?_
 refine rcH (fun K hK => ?_) AllReadyH.nil
 clear hh
 go_simp
 obtain ⟨d1,d2,hgl,⟨u,hu⟩,fz,rs',hrs',hC',hB'⟩ := HCx.out.putLit (i := 2) HBx.out.size rfl rfl [iAt 4 0,iAt 20 4,iNum 7,iOne 39,iNum 3,iOne 39] #[.int .i64 4,.int .i32 0,.int .i64 0,.string ⟨#[]⟩,.string ⟨#[]⟩,.string ⟨#[]⟩,.string ⟨#[]⟩,.int .i64 20,.int .i32 0,.int .i64 4,.string ⟨#[]⟩,.string ⟨#[]⟩,.string ⟨#[]⟩,.string ⟨#[]⟩,.int .i64 1,.int .i32 7,.int .i64 0,.string ⟨#[]⟩,.string ⟨#[]⟩,.string ⟨#[]⟩,.string ⟨#[]⟩,.int .i64 39,.int .i32 0,.int .i64 0,.string ⟨#[]⟩,.string ⟨#[]⟩,.string ⟨#[]⟩,.string ⟨#[]⟩,.int .i64 1,.int .i32 3,.int .i64 0,.string ⟨#[]⟩,.string ⟨#[]⟩,.string ⟨#[]⟩,.string ⟨#[]⟩,.int .i64 39,.int .i32 0,.int .i64 0,.string ⟨#[]⟩,.string ⟨#[]⟩,.string ⟨#[]⟩,.string ⟨#[]⟩] rfl 6 rfl
 have hu' : (x7.alloc (.cells #[.int .i64 4,.int .i32 0,.int .i64 0,.string ⟨#[]⟩,.string ⟨#[]⟩,.string ⟨#[]⟩,.string ⟨#[]⟩,.int .i64 20,.int .i32 0,.int .i64 4,.string ⟨#[]⟩,.string ⟨#[]⟩,.string ⟨#[]⟩,.string ⟨#[]⟩,.int .i64 1,.int .i32 7,.int .i64 0,.string ⟨#[]⟩,.string ⟨#[]⟩,.string ⟨#[]⟩,.string ⟨#[]⟩,.int .i64 39,.int .i32 0,.int .i64 0,.string ⟨#[]⟩,.string ⟨#[]⟩,.string ⟨#[]⟩,.string ⟨#[]⟩,.int .i64 1,.int .i32 3,.int .i64 0,.string ⟨#[]⟩,.string ⟨#[]⟩,.string ⟨#[]⟩,.string ⟨#[]⟩,.int .i64 39,.int .i32 0,.int .i64 0,.string ⟨#[]⟩,.string ⟨#[]⟩,.string ⟨#[]⟩,.string ⟨#[]⟩] 59)).cell? ⟨wm8.heap.size,25,none⟩ = some u := hu
 have fz' : (x7.alloc (.cells #[.int .i64 4,.int .i32 0,.int .i64 0,.string ⟨#[]⟩,.string ⟨#[]⟩,.string ⟨#[]⟩,.string ⟨#[]⟩,.int .i64 20,.int .i32 0,.int .i64 4,.string ⟨#[]⟩,.string ⟨#[]⟩,.string ⟨#[]⟩,.string ⟨#[]⟩,.int .i64 1,.int .i32 7,.int .i64 0,.string ⟨#[]⟩,.string ⟨#[]⟩,.string ⟨#[]⟩,.string ⟨#[]⟩,.int .i64 39,.int .i32 0,.int .i64 0,.string ⟨#[]⟩,.string ⟨#[]⟩,.string ⟨#[]⟩,.string ⟨#[]⟩,.int .i64 1,.int .i32 3,.int .i64 0,.string ⟨#[]⟩,.string ⟨#[]⟩,.string ⟨#[]⟩,.string ⟨#[]⟩,.int .i64 39,.int .i32 0,.int .i64 0,.string ⟨#[]⟩,.string ⟨#[]⟩,.string ⟨#[]⟩,.string ⟨#[]⟩] 59)).frozen? ⟨wm8.heap.size,25,none⟩ = false := fz
 have HC2 := hid hC'
 have HB2 := hid hB'
 clear hC' hB' hu fz
 refine hK.out _ _ d2 (fun hh => ?_)
 clear hK K
 try go_frame
 refine tkA 9 _ hh ?_
 try go_frame
 refine tkA 10 _ hh ?_
 try go_frame
 refine rdH [11] ?_
 refine rcH (fun K hK => ?_) AllReadyH.nil
 clear hh
 go_simp
 refine hK.out _ _ (by first | exact HC2.out.cells.2.1 | (rw [<- World.setCell_alloc_past _ _ _ _ hgl]; exact HC2.out.cells.2.1)) (fun hh => ?_)
 clear hK K
 try go_frame
 refine wpAnyH_done (by kernel_rfl) ?_ _
 obtain ⟨w6,hN⟩ : ∃ x,x = (x7.setCell ⟨wm8.heap.size,25,none⟩ (.slice (some ⟨x7.heap.size,0,none⟩) 6 6)).alloc (.cells #[.int .i64 4,.int .i32 0,.int .i64 0,.string ⟨#[]⟩,.string ⟨#[]⟩,.string ⟨#[]⟩,.string ⟨#[]⟩,.int .i64 20,.int .i32 0,.int .i64 4,.string ⟨#[]⟩,.string ⟨#[]⟩,.string ⟨#[]⟩,.string ⟨#[]⟩,.int .i64 1,.int .i32 7,.int .i64 0,.string ⟨#[]⟩,.string ⟨#[]⟩,.string ⟨#[]⟩,.string ⟨#[]⟩,.int .i64 39,.int .i32 0,.int .i64 0,.string ⟨#[]⟩,.string ⟨#[]⟩,.string ⟨#[]⟩,.string ⟨#[]⟩,.int .i64 1,.int .i32 3,.int .i64 0,.string ⟨#[]⟩,.string ⟨#[]⟩,.string ⟨#[]⟩,.string ⟨#[]⟩,.int .i64 39,.int .i32 0,.int .i64 0,.string ⟨#[]⟩,.string ⟨#[]⟩,.string ⟨#[]⟩,.string ⟨#[]⟩] 59) := ⟨_,rfl⟩
 rw [<- hN]
 have hN2 : w6 = (x7.alloc (.cells #[.int .i64 4,.int .i32 0,.int .i64 0,.string ⟨#[]⟩,.string ⟨#[]⟩,.string ⟨#[]⟩,.string ⟨#[]⟩,.int .i64 20,.int .i32 0,.int .i64 4,.string ⟨#[]⟩,.string ⟨#[]⟩,.string ⟨#[]⟩,.string ⟨#[]⟩,.int .i64 1,.int .i32 7,.int .i64 0,.string ⟨#[]⟩,.string ⟨#[]⟩,.string ⟨#[]⟩,.string ⟨#[]⟩,.int .i64 39,.int .i32 0,.int .i64 0,.string ⟨#[]⟩,.string ⟨#[]⟩,.string ⟨#[]⟩,.string ⟨#[]⟩,.int .i64 1,.int .i32 3,.int .i64 0,.string ⟨#[]⟩,.string ⟨#[]⟩,.string ⟨#[]⟩,.string ⟨#[]⟩,.int .i64 39,.int .i32 0,.int .i64 0,.string ⟨#[]⟩,.string ⟨#[]⟩,.string ⟨#[]⟩,.string ⟨#[]⟩] 59)).setCell ⟨wm8.heap.size,25,none⟩ (.slice (some ⟨x7.heap.size,0,none⟩) 6 6) := by rw [hN,World.setCell_alloc_past _ _ _ _ hgl]
 have hC3 := HC2.out
 have hB3 := HBx.out.trans HB2.out
 rw [show (x7.alloc (.cells #[.int .i64 4,.int .i32 0,.int .i64 0,.string ⟨#[]⟩,.string ⟨#[]⟩,.string ⟨#[]⟩,.string ⟨#[]⟩,.int .i64 20,.int .i32 0,.int .i64 4,.string ⟨#[]⟩,.string ⟨#[]⟩,.string ⟨#[]⟩,.string ⟨#[]⟩,.int .i64 1,.int .i32 7,.int .i64 0,.string ⟨#[]⟩,.string ⟨#[]⟩,.string ⟨#[]⟩,.string ⟨#[]⟩,.int .i64 39,.int .i32 0,.int .i64 0,.string ⟨#[]⟩,.string ⟨#[]⟩,.string ⟨#[]⟩,.string ⟨#[]⟩,.int .i64 1,.int .i32 3,.int .i64 0,.string ⟨#[]⟩,.string ⟨#[]⟩,.string ⟨#[]⟩,.string ⟨#[]⟩,.int .i64 39,.int .i32 0,.int .i64 0,.string ⟨#[]⟩,.string ⟨#[]⟩,.string ⟨#[]⟩,.string ⟨#[]⟩] 59)).setCell ⟨wm8.heap.size,2 * 9 + 7,none⟩ (.slice (some ⟨x7.heap.size,0,none⟩) 6 6) = w6 from hN2.symm] at hC3 hB3
 have Hw6 := hid hC3
 replace HBw := hid hB3
 clear hC3 hB3 hN hN2 HC2 HB2 HCx HBx hu' fz' d1 d2 hgl HCl
 obtain ⟨RS6,hRS6⟩ : ∃ x,x = rs' := ⟨_,rfl⟩
 rw [<- hRS6] at Hw6 hrs'
 clear hRS6
 by_cases hk1 : k % 2 = 1
 ·have hb1 : bits BinOp.and IntKind.u8 (k : Int) 1 = 1 := by have := bit_at hk 0 (by decide); simpa [hk1] using this
  obtain ⟨r7,hr7⟩ : ∃ r,RS6[7]? = some r := ⟨_,List.getElem?_eq_getElem (by rw [hrs']; simp)⟩
  go_wp2_with fail
  have hrs6 := hid hrs'
  clear hrs'
  have HCx := hid (Hw6.out.below (below_drU w6))
  have HBx : Hid (Below w1.heap.size w1 w6.drew) := hid (HBw.out.trans ((below_drU w6).mono HBw.out.size))
  refine wp_region_held_drew (S := fun W => W.cell? ⟨tb,5,none⟩ = some (.slice (some ⟨wm8.heap.size,0,none⟩) 9 9)) (by kernel_rfl) HCx.out.cells.2.1 (fun hh => ?_)
  refine tkA 0 _ hh ?_
  try go_frame
  refine tkB 1 _ hh ?_
  try go_frame
  refine rdH [2] ?_
  refine rcH (fun K hK => ?_) AllReadyH.nil
  clear hh
  go_simp
  refine (num_x _ _ (by omega)).mono ?_
  rintro e x2 ⟨rfl,hb⟩
  replace HCx := hid (HCx.out.below hb)
  replace HBx := hid (HBx.out.trans (hb.mono HBx.out.size))
  clear hb
  refine hK.out _ _ HCx.out.cells.2.1 (fun hh => ?_)
  clear hK K
  try go_frame
  refine rdH [3] ?_
  refine rcH (fun K hK => ?_) AllReadyH.nil
  clear hh
  go_simp
  refine (str_x _ _).mono ?_
  rintro e x3 ⟨rfl,hb⟩
  replace HCx := hid (HCx.out.below hb)
  replace HBx := hid (HBx.out.trans (hb.mono HBx.out.size))
  clear hb
  refine hK.out _ _ HCx.out.cells.2.1 (fun hh => ?_)
  clear hK K
  try go_frame
  refine rdH [4] ?_
  refine rcH (fun K hK => ?_) AllReadyH.nil
  clear hh
  go_simp
  refine (one_x _ _).mono ?_
  rintro e x4 ⟨rfl,hb⟩
  replace HCx := hid (HCx.out.below hb)
  replace HBx := hid (HBx.out.trans (hb.mono HBx.out.size))
  clear hb
  refine hK.out _ _ HCx.out.cells.2.1 (fun hh => ?_)
  clear hK K
  try go_frame
  refine rdH [5] ?_
  refine rcH (fun K hK => ?_) AllReadyH.nil
  clear hh
  go_simp
  refine (one_x _ _).mono ?_
  rintro e x5 ⟨rfl,hb⟩
  replace HCx := hid (HCx.out.below hb)
  replace HBx := hid (HBx.out.trans (hb.mono HBx.out.size))
  clear hb
  refine hK.out _ _ HCx.out.cells.2.1 (fun hh => ?_)
  clear hK K
  try go_frame
  refine rdH [6] ?_
  refine rcH (fun K hK => ?_) AllReadyH.nil
  clear hh
  go_simp
  obtain ⟨d1,d2,hgl,⟨u,hu⟩,fz,rs',hrs',hC',hB'⟩ := HCx.out.putLit (i := 7) HBx.out.size hr7 rfl [iNum 5,iStr ⟨#[108,101,102,116]⟩,iOne 41,iOne 40] #[.int .i64 1,.int .i32 5,.int .i64 0,.string ⟨#[]⟩,.string ⟨#[]⟩,.string ⟨#[]⟩,.string ⟨#[]⟩,.int .i64 2,.int .i32 0,.int .i64 0,.string ⟨#[108,101,102,116]⟩,.string ⟨#[]⟩,.string ⟨#[]⟩,.string ⟨#[]⟩,.int .i64 41,.int .i32 0,.int .i64 0,.string ⟨#[]⟩,.string ⟨#[]⟩,.string ⟨#[]⟩,.string ⟨#[]⟩,.int .i64 40,.int .i32 0,.int .i64 0,.string ⟨#[]⟩,.string ⟨#[]⟩,.string ⟨#[]⟩,.string ⟨#[]⟩] rfl 4 rfl
  have hu' : (x5.alloc (.cells #[.int .i64 1,.int .i32 5,.int .i64 0,.string ⟨#[]⟩,.string ⟨#[]⟩,.string ⟨#[]⟩,.string ⟨#[]⟩,.int .i64 2,.int .i32 0,.int .i64 0,.string ⟨#[108,101,102,116]⟩,.string ⟨#[]⟩,.string ⟨#[]⟩,.string ⟨#[]⟩,.int .i64 41,.int .i32 0,.int .i64 0,.string ⟨#[]⟩,.string ⟨#[]⟩,.string ⟨#[]⟩,.string ⟨#[]⟩,.int .i64 40,.int .i32 0,.int .i64 0,.string ⟨#[]⟩,.string ⟨#[]⟩,.string ⟨#[]⟩,.string ⟨#[]⟩] 59)).cell? ⟨wm8.heap.size,70,none⟩ = some u := hu
  have fz' : (x5.alloc (.cells #[.int .i64 1,.int .i32 5,.int .i64 0,.string ⟨#[]⟩,.string ⟨#[]⟩,.string ⟨#[]⟩,.string ⟨#[]⟩,.int .i64 2,.int .i32 0,.int .i64 0,.string ⟨#[108,101,102,116]⟩,.string ⟨#[]⟩,.string ⟨#[]⟩,.string ⟨#[]⟩,.int .i64 41,.int .i32 0,.int .i64 0,.string ⟨#[]⟩,.string ⟨#[]⟩,.string ⟨#[]⟩,.string ⟨#[]⟩,.int .i64 40,.int .i32 0,.int .i64 0,.string ⟨#[]⟩,.string ⟨#[]⟩,.string ⟨#[]⟩,.string ⟨#[]⟩] 59)).frozen? ⟨wm8.heap.size,70,none⟩ = false := fz
  have HC2 := hid hC'
  have HB2 := hid hB'
  clear hC' hB' hu fz
  refine hK.out _ _ d2 (fun hh => ?_)
  clear hK K
  try go_frame
  refine tkA 7 _ hh ?_
  try go_frame
  refine tkA 8 _ hh ?_
  try go_frame
  refine rdH [9] ?_
  refine rcH (fun K hK => ?_) AllReadyH.nil
  clear hh
  go_simp
  refine hK.out _ _ (by first | exact HC2.out.cells.2.1 | (rw [<- World.setCell_alloc_past _ _ _ _ hgl]; exact HC2.out.cells.2.1)) (fun hh => ?_)
  clear hK K
  try go_frame
  refine wpAnyH_done (by kernel_rfl) ?_ _
  obtain ⟨w7,hN⟩ : ∃ x,x = (x5.setCell ⟨wm8.heap.size,70,none⟩ (.slice (some ⟨x5.heap.size,0,none⟩) 4 4)).alloc (.cells #[.int .i64 1,.int .i32 5,.int .i64 0,.string ⟨#[]⟩,.string ⟨#[]⟩,.string ⟨#[]⟩,.string ⟨#[]⟩,.int .i64 2,.int .i32 0,.int .i64 0,.string ⟨#[108,101,102,116]⟩,.string ⟨#[]⟩,.string ⟨#[]⟩,.string ⟨#[]⟩,.int .i64 41,.int .i32 0,.int .i64 0,.string ⟨#[]⟩,.string ⟨#[]⟩,.string ⟨#[]⟩,.string ⟨#[]⟩,.int .i64 40,.int .i32 0,.int .i64 0,.string ⟨#[]⟩,.string ⟨#[]⟩,.string ⟨#[]⟩,.string ⟨#[]⟩] 59) := ⟨_,rfl⟩
  rw [<- hN]
  have hN2 : w7 = (x5.alloc (.cells #[.int .i64 1,.int .i32 5,.int .i64 0,.string ⟨#[]⟩,.string ⟨#[]⟩,.string ⟨#[]⟩,.string ⟨#[]⟩,.int .i64 2,.int .i32 0,.int .i64 0,.string ⟨#[108,101,102,116]⟩,.string ⟨#[]⟩,.string ⟨#[]⟩,.string ⟨#[]⟩,.int .i64 41,.int .i32 0,.int .i64 0,.string ⟨#[]⟩,.string ⟨#[]⟩,.string ⟨#[]⟩,.string ⟨#[]⟩,.int .i64 40,.int .i32 0,.int .i64 0,.string ⟨#[]⟩,.string ⟨#[]⟩,.string ⟨#[]⟩,.string ⟨#[]⟩] 59)).setCell ⟨wm8.heap.size,70,none⟩ (.slice (some ⟨x5.heap.size,0,none⟩) 4 4) := by rw [hN,World.setCell_alloc_past _ _ _ _ hgl]
  have hC3 := HC2.out
  have hB3 := HBx.out.trans HB2.out
  rw [show (x5.alloc (.cells #[.int .i64 1,.int .i32 5,.int .i64 0,.string ⟨#[]⟩,.string ⟨#[]⟩,.string ⟨#[]⟩,.string ⟨#[]⟩,.int .i64 2,.int .i32 0,.int .i64 0,.string ⟨#[108,101,102,116]⟩,.string ⟨#[]⟩,.string ⟨#[]⟩,.string ⟨#[]⟩,.int .i64 41,.int .i32 0,.int .i64 0,.string ⟨#[]⟩,.string ⟨#[]⟩,.string ⟨#[]⟩,.string ⟨#[]⟩,.int .i64 40,.int .i32 0,.int .i64 0,.string ⟨#[]⟩,.string ⟨#[]⟩,.string ⟨#[]⟩,.string ⟨#[]⟩] 59)).setCell ⟨wm8.heap.size,7 * 9 + 7,none⟩ (.slice (some ⟨x5.heap.size,0,none⟩) 4 4) = w7 from hN2.symm] at hC3 hB3
  have Hw7 := hid hC3
  replace HBw := hid hB3
  clear hC3 hB3 hN hN2 HC2 HB2 HCx HBx hu' fz' d1 d2 hgl Hw6
  have HRL : Hid (rs'.length = 9) := hid (by rw [hrs',hrs6.out]; rfl)
  clear hrs' hr7 hrs6
  by_cases hk2 : k / 2 % 2 = 1
  ·have hb2 : bits BinOp.and IntKind.u8 (k : Int) 2 = 2 := by have := bit_at hk 1 (by decide); simpa [hk2] using this
   go_wp2_with fail
   have hCx := Hw7.out.below (below_drU w7)
   have hBx : Below w1.heap.size w1 w7.drew := HBw.out.trans ((below_drU w7).mono HBw.out.size)
   obtain ⟨t1,t2,t3⟩ := hCx.cells
   have hrl : rs'.length <= 9 := by rw [HRL.out]; decide
   go_region_law (first
    | (refine step_appM inf_mth (shape_raw 9) (by rfl) _ _ (by rfl) w1.heap.size _ rs' (by rfl) hCc.2.2.2.2.1 wx.heap.size 0 1 1 [rX] (by rfl) hsrc (by simp; omega) hBc ?_; intro v3 w3 ho3 hg3 hl3; obtain ⟨e1,e2,e3,hC5,hB5⟩ := hCc.app hBc hmX.out ho3 hg3 hl3; obtain ⟨p3,n3,c3,hv3⟩ := ho3.slice; subst hv3; have HC5 := hid hC5; have HB5 := hid hB5; clear hC5 hB5 ho3 hg3 hl3)
    | (rw [if_pos (by rfl)]; go_simp; go_at_call 24; refine (clinit_v _ _).mono ?_; rintro e wx ⟨pp,np,cp,pc,nc,cc,ph,nh,ch,rfl,g1,g2,g3,hbx⟩; have hmr0 : mP (fun b => w7.drew.heap.size <= b) wx [.string (clinitS ⟨#[117,116,105,108]⟩).name,.slice pp np cp,.int .i64 (clinitS ⟨#[117,116,105,108]⟩).ret.1,.string (clinitS ⟨#[117,116,105,108]⟩).ret.2,.bool (clinitS ⟨#[117,116,105,108]⟩).st,.bool (clinitS ⟨#[117,116,105,108]⟩).ab,.int .i64 (clinitS ⟨#[117,116,105,108]⟩).locals,.slice pc nc cc,.slice ph nh ch] (clinitS ⟨#[117,116,105,108]⟩) := ⟨_,_,_,rfl,g1,g2,g3⟩; have hmr := hid hmr0; clear hmr0 g1 g2 g3; have hown := hid (hCx.2.2.2.2.1).lt; have hct := hCx.lt; replace hCx := hCx.below hbx; obtain ⟨t1,t2,t3⟩ := hCx.cells; have hbl := below_alM wx (.cells #[.string (clinitS ⟨#[117,116,105,108]⟩).name,.slice pp np cp,.int .i64 (clinitS ⟨#[117,116,105,108]⟩).ret.1,.string (clinitS ⟨#[117,116,105,108]⟩).ret.2,.bool (clinitS ⟨#[117,116,105,108]⟩).st,.bool (clinitS ⟨#[117,116,105,108]⟩).ab,.int .i64 (clinitS ⟨#[117,116,105,108]⟩).locals,.slice pc nc cc,.slice ph nh ch] 49); have hCc := hCx.below hbl; obtain ⟨d1,d2,d3⟩ := hCc.cells; obtain ⟨rX,hrX⟩ : ∃ r : Raw 9,rawC r = [.string (clinitS ⟨#[117,116,105,108]⟩).name,.slice pp np cp,.int .i64 (clinitS ⟨#[117,116,105,108]⟩).ret.1,.string (clinitS ⟨#[117,116,105,108]⟩).ret.2,.bool (clinitS ⟨#[117,116,105,108]⟩).st,.bool (clinitS ⟨#[117,116,105,108]⟩).ab,.int .i64 (clinitS ⟨#[117,116,105,108]⟩).locals,.slice pc nc cc,.slice ph nh ch] := ⟨⟨_,shape_mth _ _ _ _ hmr.out⟩,rfl⟩; have hsrc : Hid (RdX 9 (sP rawC) anyB (wx.alloc (.cells #[.string (clinitS ⟨#[117,116,105,108]⟩).name,.slice pp np cp,.int .i64 (clinitS ⟨#[117,116,105,108]⟩).ret.1,.string (clinitS ⟨#[117,116,105,108]⟩).ret.2,.bool (clinitS ⟨#[117,116,105,108]⟩).st,.bool (clinitS ⟨#[117,116,105,108]⟩).ab,.int .i64 (clinitS ⟨#[117,116,105,108]⟩).locals,.slice pc nc cc,.slice ph nh ch] 49)) (.slice (some ⟨wx.heap.size,0,none⟩) 1 1) [rX]) := hid (rdX_lit1 rawC_len wx rX _ _ (by rw [hrX])); have hBx2 := hBx.trans (hbx.mono hBx.size); have hBc : w1.heap.size <= (wx.alloc (.cells #[.string (clinitS ⟨#[117,116,105,108]⟩).name,.slice pp np cp,.int .i64 (clinitS ⟨#[117,116,105,108]⟩).ret.1,.string (clinitS ⟨#[117,116,105,108]⟩).ret.2,.bool (clinitS ⟨#[117,116,105,108]⟩).st,.bool (clinitS ⟨#[117,116,105,108]⟩).ab,.int .i64 (clinitS ⟨#[117,116,105,108]⟩).locals,.slice pc nc cc,.slice ph nh ch] 49)).heap.size := Nat.le_trans hBx2.size hbl.size; have hmX : Hid (mP (okT w1.heap.size tb (.slice (some ⟨wm8.heap.size,0,none⟩) 9 9)) (wx.alloc (.cells #[.string (clinitS ⟨#[117,116,105,108]⟩).name,.slice pp np cp,.int .i64 (clinitS ⟨#[117,116,105,108]⟩).ret.1,.string (clinitS ⟨#[117,116,105,108]⟩).ret.2,.bool (clinitS ⟨#[117,116,105,108]⟩).st,.bool (clinitS ⟨#[117,116,105,108]⟩).ab,.int .i64 (clinitS ⟨#[117,116,105,108]⟩).locals,.slice pc nc cc,.slice ph nh ch] 49)) (rawC rX) (clinitS ⟨#[117,116,105,108]⟩)) := hid (by rw [hrX]; exact mP.grow _ _ _ _ _ _ hmr.out (fun b (hb : w7.drew.heap.size <= b) _ => ⟨Nat.le_trans hBx.size hb,by omega,fun e => by have := (hown.out b e).2; omega⟩) (.of_below hbl) hbl.size); have HBX2 := hid (hBx2.trans (hbl.mono hBx2.size))))
   all_goals
    obtain ⟨wZ,hwZ⟩ : ∃ x,x = w3.setCell ⟨tb,5,none⟩ (.slice p3 n3 c3) := ⟨_,rfl⟩
    rw [<- hwZ] at HC5 HB5 ⊢
    replace HBw := hid (HBX2.out.trans HB5.out)
    clear hwZ hCx hBx hrl hbl hCc hrX hsrc hBx2 hBc hmX HBX2 hmr hown hct hbx
    have hxF := (HBw.out.block _ hlt1).trans HX.out
    obtain ⟨hl9,hcs9,hfz9⟩ := boxN hxF
    have y9_0 := hcs9 0 _ rfl
    have z9_0 := hfz9 0
    have y9_1 := hcs9 1 _ rfl
    have z9_1 := hfz9 1
    have y9_2 := hcs9 2 _ rfl
    have z9_2 := hfz9 2
    have y9_3 := hcs9 3 _ rfl
    have z9_3 := hfz9 3
    have y9_4 := hcs9 4 _ rfl
    have z9_4 := hfz9 4
    have y9_5 := hcs9 5 _ rfl
    have z9_5 := hfz9 5
    simp only [Nat.zero_add] at y9_0 y9_1 y9_2 y9_3 y9_4 y9_5
    obtain ⟨hlm,hcm,-⟩ := boxN (show wZ.heap[tb]? = _ from HC5.out.1)
    have m9_0 := hcm 0 _ rfl
    have m9_1 := hcm 1 _ rfl
    have m9_2 := hcm 2 _ rfl
    have m9_3 := hcm 3 _ rfl
    have m9_4 := hcm 4 _ rfl
    have m9_5 := hcm 5 _ rfl
    simp only [Nat.zero_add] at m9_0 m9_1 m9_2 m9_3 m9_4 m9_5
    have HCP := hid HC5.out.done
    have HXF := hid hxF
    clear hcs9 hfz9 hcm hxF
    go_wp2_with fail
    have hk := fun {x0 x1 x2 x3 x4 x5 : Value} => (set6 (v0 := x0) (v1 := x1) (v2 := x2) (v3 := x3) (v4 := x4) (v5 := x5) HXF.out).2
    have hs9 : w.heap.size <= wZ.heap.size := by omega
    have HU : Hid (utilS k = ⟨⟨#[85,116,105,108]⟩,⟨#[79,98,106,101,99,116]⟩,[],1,[(⟨#[119,97,115,116,101]⟩,tI,true)],[mthS ⟨#[105,110,99]⟩ [tI] tI true 1 [iAt 4 0,iNum 1,iOne 8,iOne 39],mthS ⟨#[116,119,105,99,101]⟩ [tI] tI true 3 [iAt 4 0,iAt 5 2,iAt 4 2,iAt 4 2,iOne 8,iOne 39],mthS ⟨#[119,111,114,107]⟩ [tI] tI true 1 [iAt 4 0,iAt 20 4,iNum 7,iOne 39,iNum 3,iOne 39],mthS ⟨#[100,111,119,110]⟩ [tI] tI true 1 [iAt 4 0,iNum 1,iOne 14,iAt 20 6,iNum 0,iOne 39,iAt 4 0,iNum 50,iOne 9,iCall 36 ⟨#[85,116,105,108]⟩ ⟨#[100,111,119,110]⟩ ⟨#[40,73,41,73]⟩,iNum 1,iOne 8,iOne 39],mthS ⟨#[115,97,109,101]⟩ [tR ⟨#[66,97,115,101]⟩] (tR ⟨#[66,97,115,101]⟩) true 1 [iAt 4 0,iOne 39],mthS ⟨#[112,97,115,115]⟩ [tR ⟨#[73]⟩] (tR ⟨#[73]⟩) true 1 [iAt 4 0,iOne 39],mthS ⟨#[102,97,105,108]⟩ [] tV true 0 [iOf 25 ⟨#[69,114,114,50]⟩,iOne 38],mthS ⟨#[115,104,111,119]⟩ [] tV true 0 [iNum 5,iStr ⟨#[108,101,102,116]⟩,iOne 41,iOne 40],mthS ⟨#[100,101,97,100]⟩ [tI] tI true 1 [iAt 4 0,iCall 36 ⟨#[71,111,110,101]⟩ ⟨#[102]⟩ ⟨#[40,73,41,73]⟩,iOne 39]] ++ [clinitS ⟨#[117,116,105,108]⟩]⟩) := hid (by unfold utilS; simp only [hk1,hk2]; rfl)
    rw [HU.out]
    refine bodyPost_ret (v := .agg #[.string ⟨#[85,116,105,108]⟩,.string ⟨#[79,98,106,101,99,116]⟩,.slice none 0 0,.int .i64 1,.slice (some ⟨gF,0,none⟩) 1 1,.slice p3 n3 c3]) (by simp [results,Tryz.results30,go_sem,y9_0,y9_1,y9_2,y9_3,y9_4,y9_5]) rfl ⟨_,_,_,_,_,_,_,_,_,rfl,cP.grow _ _ _ _ _ _ HCP.out (fun b (h : w1.heap.size <= b) _ => (show w.heap.size <= b by omega)) (.of_kpt hk (fun b (h : w1.heap.size <= b) => by simp; omega)) hk.size,?_⟩
    exact (HA.out.trans (HBw.out.mono (Nat.le_of_lt hlt1))).trans (Kpt.below hk (fun x hx => by simp at hx; omega) hs9)
  ·have hb2 : bits BinOp.and IntKind.u8 (k : Int) 2 = 0 := by have := bit_at hk 1 (by decide); simpa [hk2] using this
   have HBW := HBw
   have hxF := (HBw.out.block _ hlt1).trans HX.out
   obtain ⟨hl9,hcs9,hfz9⟩ := boxN hxF
   have y9_0 := hcs9 0 _ rfl
   have z9_0 := hfz9 0
   have y9_1 := hcs9 1 _ rfl
   have z9_1 := hfz9 1
   have y9_2 := hcs9 2 _ rfl
   have z9_2 := hfz9 2
   have y9_3 := hcs9 3 _ rfl
   have z9_3 := hfz9 3
   have y9_4 := hcs9 4 _ rfl
   have z9_4 := hfz9 4
   have y9_5 := hcs9 5 _ rfl
   have z9_5 := hfz9 5
   simp only [Nat.zero_add] at y9_0 y9_1 y9_2 y9_3 y9_4 y9_5
   obtain ⟨hlm,hcm,-⟩ := boxN (show w7.heap[tb]? = _ from Hw7.out.1)
   have m9_0 := hcm 0 _ rfl
   have m9_1 := hcm 1 _ rfl
   have m9_2 := hcm 2 _ rfl
   have m9_3 := hcm 3 _ rfl
   have m9_4 := hcm 4 _ rfl
   have m9_5 := hcm 5 _ rfl
   simp only [Nat.zero_add] at m9_0 m9_1 m9_2 m9_3 m9_4 m9_5
   have HCP := hid Hw7.out.done
   have HXF := hid hxF
   clear hcs9 hfz9 hcm hxF
   go_wp2_with fail
   have hk := fun {x0 x1 x2 x3 x4 x5 : Value} => (set6 (v0 := x0) (v1 := x1) (v2 := x2) (v3 := x3) (v4 := x4) (v5 := x5) HXF.out).2
   have hs9 : w.heap.size <= w7.heap.size := by omega
   have HU : Hid (utilS k = ⟨⟨#[85,116,105,108]⟩,⟨#[79,98,106,101,99,116]⟩,[],1,[(⟨#[119,97,115,116,101]⟩,tI,true)],[mthS ⟨#[105,110,99]⟩ [tI] tI true 1 [iAt 4 0,iNum 1,iOne 8,iOne 39],mthS ⟨#[116,119,105,99,101]⟩ [tI] tI true 3 [iAt 4 0,iAt 5 2,iAt 4 2,iAt 4 2,iOne 8,iOne 39],mthS ⟨#[119,111,114,107]⟩ [tI] tI true 1 [iAt 4 0,iAt 20 4,iNum 7,iOne 39,iNum 3,iOne 39],mthS ⟨#[100,111,119,110]⟩ [tI] tI true 1 [iAt 4 0,iNum 1,iOne 14,iAt 20 6,iNum 0,iOne 39,iAt 4 0,iNum 50,iOne 9,iCall 36 ⟨#[85,116,105,108]⟩ ⟨#[100,111,119,110]⟩ ⟨#[40,73,41,73]⟩,iNum 1,iOne 8,iOne 39],mthS ⟨#[115,97,109,101]⟩ [tR ⟨#[66,97,115,101]⟩] (tR ⟨#[66,97,115,101]⟩) true 1 [iAt 4 0,iOne 39],mthS ⟨#[112,97,115,115]⟩ [tR ⟨#[73]⟩] (tR ⟨#[73]⟩) true 1 [iAt 4 0,iOne 39],mthS ⟨#[102,97,105,108]⟩ [] tV true 0 [iOf 25 ⟨#[69,114,114,50]⟩,iOne 38],mthS ⟨#[115,104,111,119]⟩ [] tV true 0 [iNum 5,iStr ⟨#[108,101,102,116]⟩,iOne 41,iOne 40],mthS ⟨#[100,101,97,100]⟩ [tI] tI true 1 [iAt 4 0,iCall 36 ⟨#[71,111,110,101]⟩ ⟨#[102]⟩ ⟨#[40,73,41,73]⟩,iOne 39]]⟩) := hid (by unfold utilS; simp only [hk1,hk2]; rfl)
   rw [HU.out]
   refine bodyPost_ret (v := .agg #[.string ⟨#[85,116,105,108]⟩,.string ⟨#[79,98,106,101,99,116]⟩,.slice none 0 0,.int .i64 1,.slice (some ⟨gF,0,none⟩) 1 1,(.slice (some ⟨wm8.heap.size,0,none⟩) 9 9)]) (by simp [results,Tryz.results30,go_sem,y9_0,y9_1,y9_2,y9_3,y9_4,y9_5]) rfl ⟨_,_,_,_,_,_,_,_,_,rfl,cP.grow _ _ _ _ _ _ HCP.out (fun b (h : w1.heap.size <= b) _ => (show w.heap.size <= b by omega)) (.of_kpt hk (fun b (h : w1.heap.size <= b) => by simp; omega)) hk.size,?_⟩
   exact (HA.out.trans (HBw.out.mono (Nat.le_of_lt hlt1))).trans (Kpt.below hk (fun x hx => by simp at hx; omega) hs9)
 ·have hb1 : bits BinOp.and IntKind.u8 (k : Int) 1 = 0 := by have := bit_at hk 0 (by decide); simpa [hk1] using this
  have HRL : Hid (RS6.length = 9) := hid (by rw [hrs']; rfl)
  clear hrs'
  by_cases hk2 : k / 2 % 2 = 1
  ·have hb2 : bits BinOp.and IntKind.u8 (k : Int) 2 = 2 := by have := bit_at hk 1 (by decide); simpa [hk2] using this
   go_wp2_with fail
   have hCx := Hw6.out.below (below_drU w6)
   have hBx : Below w1.heap.size w1 w6.drew := HBw.out.trans ((below_drU w6).mono HBw.out.size)
   obtain ⟨t1,t2,t3⟩ := hCx.cells
   have hrl : RS6.length <= 9 := by rw [HRL.out]; decide
   go_region_law (first
    | (refine step_appM inf_mth (shape_raw 9) (by rfl) _ _ (by rfl) w1.heap.size _ RS6 (by rfl) hCc.2.2.2.2.1 wx.heap.size 0 1 1 [rX] (by rfl) hsrc (by simp; omega) hBc ?_; intro v3 w3 ho3 hg3 hl3; obtain ⟨e1,e2,e3,hC5,hB5⟩ := hCc.app hBc hmX.out ho3 hg3 hl3; obtain ⟨p3,n3,c3,hv3⟩ := ho3.slice; subst hv3; have HC5 := hid hC5; have HB5 := hid hB5; clear hC5 hB5 ho3 hg3 hl3)
    | (rw [if_pos (by rfl)]; go_simp; go_at_call 24; refine (clinit_v _ _).mono ?_; rintro e wx ⟨pp,np,cp,pc,nc,cc,ph,nh,ch,rfl,g1,g2,g3,hbx⟩; have hmr0 : mP (fun b => w6.drew.heap.size <= b) wx [.string (clinitS ⟨#[117,116,105,108]⟩).name,.slice pp np cp,.int .i64 (clinitS ⟨#[117,116,105,108]⟩).ret.1,.string (clinitS ⟨#[117,116,105,108]⟩).ret.2,.bool (clinitS ⟨#[117,116,105,108]⟩).st,.bool (clinitS ⟨#[117,116,105,108]⟩).ab,.int .i64 (clinitS ⟨#[117,116,105,108]⟩).locals,.slice pc nc cc,.slice ph nh ch] (clinitS ⟨#[117,116,105,108]⟩) := ⟨_,_,_,rfl,g1,g2,g3⟩; have hmr := hid hmr0; clear hmr0 g1 g2 g3; have hown := hid (hCx.2.2.2.2.1).lt; have hct := hCx.lt; replace hCx := hCx.below hbx; obtain ⟨t1,t2,t3⟩ := hCx.cells; have hbl := below_alM wx (.cells #[.string (clinitS ⟨#[117,116,105,108]⟩).name,.slice pp np cp,.int .i64 (clinitS ⟨#[117,116,105,108]⟩).ret.1,.string (clinitS ⟨#[117,116,105,108]⟩).ret.2,.bool (clinitS ⟨#[117,116,105,108]⟩).st,.bool (clinitS ⟨#[117,116,105,108]⟩).ab,.int .i64 (clinitS ⟨#[117,116,105,108]⟩).locals,.slice pc nc cc,.slice ph nh ch] 49); have hCc := hCx.below hbl; obtain ⟨d1,d2,d3⟩ := hCc.cells; obtain ⟨rX,hrX⟩ : ∃ r : Raw 9,rawC r = [.string (clinitS ⟨#[117,116,105,108]⟩).name,.slice pp np cp,.int .i64 (clinitS ⟨#[117,116,105,108]⟩).ret.1,.string (clinitS ⟨#[117,116,105,108]⟩).ret.2,.bool (clinitS ⟨#[117,116,105,108]⟩).st,.bool (clinitS ⟨#[117,116,105,108]⟩).ab,.int .i64 (clinitS ⟨#[117,116,105,108]⟩).locals,.slice pc nc cc,.slice ph nh ch] := ⟨⟨_,shape_mth _ _ _ _ hmr.out⟩,rfl⟩; have hsrc : Hid (RdX 9 (sP rawC) anyB (wx.alloc (.cells #[.string (clinitS ⟨#[117,116,105,108]⟩).name,.slice pp np cp,.int .i64 (clinitS ⟨#[117,116,105,108]⟩).ret.1,.string (clinitS ⟨#[117,116,105,108]⟩).ret.2,.bool (clinitS ⟨#[117,116,105,108]⟩).st,.bool (clinitS ⟨#[117,116,105,108]⟩).ab,.int .i64 (clinitS ⟨#[117,116,105,108]⟩).locals,.slice pc nc cc,.slice ph nh ch] 49)) (.slice (some ⟨wx.heap.size,0,none⟩) 1 1) [rX]) := hid (rdX_lit1 rawC_len wx rX _ _ (by rw [hrX])); have hBx2 := hBx.trans (hbx.mono hBx.size); have hBc : w1.heap.size <= (wx.alloc (.cells #[.string (clinitS ⟨#[117,116,105,108]⟩).name,.slice pp np cp,.int .i64 (clinitS ⟨#[117,116,105,108]⟩).ret.1,.string (clinitS ⟨#[117,116,105,108]⟩).ret.2,.bool (clinitS ⟨#[117,116,105,108]⟩).st,.bool (clinitS ⟨#[117,116,105,108]⟩).ab,.int .i64 (clinitS ⟨#[117,116,105,108]⟩).locals,.slice pc nc cc,.slice ph nh ch] 49)).heap.size := Nat.le_trans hBx2.size hbl.size; have hmX : Hid (mP (okT w1.heap.size tb (.slice (some ⟨wm8.heap.size,0,none⟩) 9 9)) (wx.alloc (.cells #[.string (clinitS ⟨#[117,116,105,108]⟩).name,.slice pp np cp,.int .i64 (clinitS ⟨#[117,116,105,108]⟩).ret.1,.string (clinitS ⟨#[117,116,105,108]⟩).ret.2,.bool (clinitS ⟨#[117,116,105,108]⟩).st,.bool (clinitS ⟨#[117,116,105,108]⟩).ab,.int .i64 (clinitS ⟨#[117,116,105,108]⟩).locals,.slice pc nc cc,.slice ph nh ch] 49)) (rawC rX) (clinitS ⟨#[117,116,105,108]⟩)) := hid (by rw [hrX]; exact mP.grow _ _ _ _ _ _ hmr.out (fun b (hb : w6.drew.heap.size <= b) _ => ⟨Nat.le_trans hBx.size hb,by omega,fun e => by have := (hown.out b e).2; omega⟩) (.of_below hbl) hbl.size); have HBX2 := hid (hBx2.trans (hbl.mono hBx2.size))))
   all_goals
    obtain ⟨wZ,hwZ⟩ : ∃ x,x = w3.setCell ⟨tb,5,none⟩ (.slice p3 n3 c3) := ⟨_,rfl⟩
    rw [<- hwZ] at HC5 HB5 ⊢
    replace HBw := hid (HBX2.out.trans HB5.out)
    clear hwZ hCx hBx hrl hbl hCc hrX hsrc hBx2 hBc hmX HBX2 hmr hown hct hbx
    have hxF := (HBw.out.block _ hlt1).trans HX.out
    obtain ⟨hl9,hcs9,hfz9⟩ := boxN hxF
    have y9_0 := hcs9 0 _ rfl
    have z9_0 := hfz9 0
    have y9_1 := hcs9 1 _ rfl
    have z9_1 := hfz9 1
    have y9_2 := hcs9 2 _ rfl
    have z9_2 := hfz9 2
    have y9_3 := hcs9 3 _ rfl
    have z9_3 := hfz9 3
    have y9_4 := hcs9 4 _ rfl
    have z9_4 := hfz9 4
    have y9_5 := hcs9 5 _ rfl
    have z9_5 := hfz9 5
    simp only [Nat.zero_add] at y9_0 y9_1 y9_2 y9_3 y9_4 y9_5
    obtain ⟨hlm,hcm,-⟩ := boxN (show wZ.heap[tb]? = _ from HC5.out.1)
    have m9_0 := hcm 0 _ rfl
    have m9_1 := hcm 1 _ rfl
    have m9_2 := hcm 2 _ rfl
    have m9_3 := hcm 3 _ rfl
    have m9_4 := hcm 4 _ rfl
    have m9_5 := hcm 5 _ rfl
    simp only [Nat.zero_add] at m9_0 m9_1 m9_2 m9_3 m9_4 m9_5
    have HCP := hid HC5.out.done
    have HXF := hid hxF
    clear hcs9 hfz9 hcm hxF
    go_wp2_with fail
    have hk := fun {x0 x1 x2 x3 x4 x5 : Value} => (set6 (v0 := x0) (v1 := x1) (v2 := x2) (v3 := x3) (v4 := x4) (v5 := x5) HXF.out).2
    have hs9 : w.heap.size <= wZ.heap.size := by omega
    have HU : Hid (utilS k = ⟨⟨#[85,116,105,108]⟩,⟨#[79,98,106,101,99,116]⟩,[],1,[(⟨#[119,97,115,116,101]⟩,tI,true)],[mthS ⟨#[105,110,99]⟩ [tI] tI true 1 [iAt 4 0,iNum 1,iOne 8,iOne 39],mthS ⟨#[116,119,105,99,101]⟩ [tI] tI true 3 [iAt 4 0,iAt 5 2,iAt 4 2,iAt 4 2,iOne 8,iOne 39],mthS ⟨#[119,111,114,107]⟩ [tI] tI true 1 [iAt 4 0,iAt 20 4,iNum 7,iOne 39,iNum 3,iOne 39],mthS ⟨#[100,111,119,110]⟩ [tI] tI true 1 [iAt 4 0,iNum 1,iOne 14,iAt 20 6,iNum 0,iOne 39,iAt 4 0,iNum 50,iOne 9,iCall 36 ⟨#[85,116,105,108]⟩ ⟨#[100,111,119,110]⟩ ⟨#[40,73,41,73]⟩,iNum 1,iOne 8,iOne 39],mthS ⟨#[115,97,109,101]⟩ [tR ⟨#[66,97,115,101]⟩] (tR ⟨#[66,97,115,101]⟩) true 1 [iAt 4 0,iOne 39],mthS ⟨#[112,97,115,115]⟩ [tR ⟨#[73]⟩] (tR ⟨#[73]⟩) true 1 [iAt 4 0,iOne 39],mthS ⟨#[102,97,105,108]⟩ [] tV true 0 [iOf 25 ⟨#[69,114,114,50]⟩,iOne 38],mthS ⟨#[115,104,111,119]⟩ [] tV true 0 [iStr ⟨#[115,104,111,119]⟩,iOne 41,iOne 40],mthS ⟨#[100,101,97,100]⟩ [tI] tI true 1 [iAt 4 0,iCall 36 ⟨#[71,111,110,101]⟩ ⟨#[102]⟩ ⟨#[40,73,41,73]⟩,iOne 39]] ++ [clinitS ⟨#[117,116,105,108]⟩]⟩) := hid (by unfold utilS; simp only [hk1,hk2]; rfl)
    rw [HU.out]
    refine bodyPost_ret (v := .agg #[.string ⟨#[85,116,105,108]⟩,.string ⟨#[79,98,106,101,99,116]⟩,.slice none 0 0,.int .i64 1,.slice (some ⟨gF,0,none⟩) 1 1,.slice p3 n3 c3]) (by simp [results,Tryz.results30,go_sem,y9_0,y9_1,y9_2,y9_3,y9_4,y9_5]) rfl ⟨_,_,_,_,_,_,_,_,_,rfl,cP.grow _ _ _ _ _ _ HCP.out (fun b (h : w1.heap.size <= b) _ => (show w.heap.size <= b by omega)) (.of_kpt hk (fun b (h : w1.heap.size <= b) => by simp; omega)) hk.size,?_⟩
    exact (HA.out.trans (HBw.out.mono (Nat.le_of_lt hlt1))).trans (Kpt.below hk (fun x hx => by simp at hx; omega) hs9)
  ·have hb2 : bits BinOp.and IntKind.u8 (k : Int) 2 = 0 := by have := bit_at hk 1 (by decide); simpa [hk2] using this
   have HBW := HBw
   have hxF := (HBw.out.block _ hlt1).trans HX.out
   obtain ⟨hl9,hcs9,hfz9⟩ := boxN hxF
   have y9_0 := hcs9 0 _ rfl
   have z9_0 := hfz9 0
   have y9_1 := hcs9 1 _ rfl
   have z9_1 := hfz9 1
   have y9_2 := hcs9 2 _ rfl
   have z9_2 := hfz9 2
   have y9_3 := hcs9 3 _ rfl
   have z9_3 := hfz9 3
   have y9_4 := hcs9 4 _ rfl
   have z9_4 := hfz9 4
   have y9_5 := hcs9 5 _ rfl
   have z9_5 := hfz9 5
   simp only [Nat.zero_add] at y9_0 y9_1 y9_2 y9_3 y9_4 y9_5
   obtain ⟨hlm,hcm,-⟩ := boxN (show w6.heap[tb]? = _ from Hw6.out.1)
   have m9_0 := hcm 0 _ rfl
   have m9_1 := hcm 1 _ rfl
   have m9_2 := hcm 2 _ rfl
   have m9_3 := hcm 3 _ rfl
   have m9_4 := hcm 4 _ rfl
   have m9_5 := hcm 5 _ rfl
   simp only [Nat.zero_add] at m9_0 m9_1 m9_2 m9_3 m9_4 m9_5
   have HCP := hid Hw6.out.done
   have HXF := hid hxF
   clear hcs9 hfz9 hcm hxF
   go_wp2_with fail
   have hk := fun {x0 x1 x2 x3 x4 x5 : Value} => (set6 (v0 := x0) (v1 := x1) (v2 := x2) (v3 := x3) (v4 := x4) (v5 := x5) HXF.out).2
   have hs9 : w.heap.size <= w6.heap.size := by omega
   have HU : Hid (utilS k = ⟨⟨#[85,116,105,108]⟩,⟨#[79,98,106,101,99,116]⟩,[],1,[(⟨#[119,97,115,116,101]⟩,tI,true)],[mthS ⟨#[105,110,99]⟩ [tI] tI true 1 [iAt 4 0,iNum 1,iOne 8,iOne 39],mthS ⟨#[116,119,105,99,101]⟩ [tI] tI true 3 [iAt 4 0,iAt 5 2,iAt 4 2,iAt 4 2,iOne 8,iOne 39],mthS ⟨#[119,111,114,107]⟩ [tI] tI true 1 [iAt 4 0,iAt 20 4,iNum 7,iOne 39,iNum 3,iOne 39],mthS ⟨#[100,111,119,110]⟩ [tI] tI true 1 [iAt 4 0,iNum 1,iOne 14,iAt 20 6,iNum 0,iOne 39,iAt 4 0,iNum 50,iOne 9,iCall 36 ⟨#[85,116,105,108]⟩ ⟨#[100,111,119,110]⟩ ⟨#[40,73,41,73]⟩,iNum 1,iOne 8,iOne 39],mthS ⟨#[115,97,109,101]⟩ [tR ⟨#[66,97,115,101]⟩] (tR ⟨#[66,97,115,101]⟩) true 1 [iAt 4 0,iOne 39],mthS ⟨#[112,97,115,115]⟩ [tR ⟨#[73]⟩] (tR ⟨#[73]⟩) true 1 [iAt 4 0,iOne 39],mthS ⟨#[102,97,105,108]⟩ [] tV true 0 [iOf 25 ⟨#[69,114,114,50]⟩,iOne 38],mthS ⟨#[115,104,111,119]⟩ [] tV true 0 [iStr ⟨#[115,104,111,119]⟩,iOne 41,iOne 40],mthS ⟨#[100,101,97,100]⟩ [tI] tI true 1 [iAt 4 0,iCall 36 ⟨#[71,111,110,101]⟩ ⟨#[102]⟩ ⟨#[40,73,41,73]⟩,iOne 39]]⟩) := hid (by unfold utilS; simp only [hk1,hk2]; rfl)
   rw [HU.out]
   refine bodyPost_ret (v := .agg #[.string ⟨#[85,116,105,108]⟩,.string ⟨#[79,98,106,101,99,116]⟩,.slice none 0 0,.int .i64 1,.slice (some ⟨gF,0,none⟩) 1 1,(.slice (some ⟨wm8.heap.size,0,none⟩) 9 9)]) (by simp [results,Tryz.results30,go_sem,y9_0,y9_1,y9_2,y9_3,y9_4,y9_5]) rfl ⟨_,_,_,_,_,_,_,_,_,rfl,cP.grow _ _ _ _ _ _ HCP.out (fun b (h : w1.heap.size <= b) _ => (show w.heap.size <= b by omega)) (.of_kpt hk (fun b (h : w1.heap.size <= b) => by simp; omega)) hk.size,?_⟩
   exact (HA.out.trans (HBw.out.mono (Nat.le_of_lt hlt1))).trans (Kpt.below hk (fun x hx => by simp at hx; omega) hs9)
end Go.Proofs.YtfpeakkbbfnhcaaGreat.A
