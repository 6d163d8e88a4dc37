/- Texts that the proof is made of, joined. No condition. -/
import Derived.Test.YtpkjlgdbaajpoaaGreatC12DOpen
import Derived.Test.YtpkjlgdbaajpoaaGreatC121
import Derived.Deep.Slices
import Derived.ProofKit
set_option linter.unusedVariables false
set_option linter.unusedSimpArgs false
set_option maxRecDepth 100000
set_option maxHeartbeats 16000000
namespace Go.Proofs.YtpkjlgdbaajpoaaGreat.R
open Go.ChangeShapes Go.WideShapes Go.ChangeAt Go.RowKit Go.Proofs.YtpkjlgdbaajpoaaGreat.D Go.Proofs.YtpkjlgdbaajpoaaGreat.O Go.Proofs.YtpkjlgdbaajpoaaGreat.A
theorem list_of {α : Type} {q : Nat -> α -> Prop} : ∀ {n : Nat},(∀ i,i < n -> ∃ z,q i z) -> ∃ zs : List α,zs.length = n /\ ∀ i z,zs[i]? = some z -> q i z
 | 0,_ => ⟨[],rfl,fun i z hz => by simp at hz⟩
 | k + 1,hv => by
  obtain ⟨zs,hl,hz⟩ := list_of (n := k) (fun i hi => hv i (by omega))
  obtain ⟨z,hzz⟩ := hv k (by omega)
  refine ⟨zs ++ [z],by rw [List.length_append,hl]; rfl,fun i y hy => ?_⟩
  by_cases hik : i < k
  ·rw [List.getElem?_append_left (by omega)] at hy
   exact hz i y hy
  ·have hi2 := (List.getElem?_eq_some_iff.1 hy).1
   rw [List.length_append,hl] at hi2
   simp at hi2
   obtain rfl : i = k := by omega
   rw [List.getElem?_append_right (by omega),hl,Nat.sub_self] at hy
   obtain rfl : z = y := by simpa using hy
   exact hzz
theorem list_open {H : Type} {enc : TypeId × Value -> H} {w : World} {base : Nat} {spare : Nat -> Bool} {held : Bool} {t e : TypeId} {sz : Nat} {α : Type} {c : α -> List Value} (good : α -> Prop) {fuel : Nat} {v : Value} {x : DataW H × List MemPlace}
  (ht : Tryz.prog.underlying t = some (.slice e)) (hce : Tryz.prog.cellsOf e = sz) (hsz : 0 < sz)
  (hel : ∀ n cs y,cs.length = sz -> DataW.trod enc Tryz.prog w base spare held n e cs = some y -> ∃ z : α,cs = c z /\ good z)
  (h : DataW.trod enc Tryz.prog w base spare held fuel t [v] = some x) :
  ∃ zs : List α,RdX sz (sP c) anyB w v zs /\ ∀ z ∈ zs,good z := by
 rcases Deep.open_slice ht h with ⟨hcs,_⟩ | ⟨ad,len,cap,m,n,D0,P0,hcs,hb,hl,hm,hmm,_,hx⟩
 ·simp at hcs
  subst hcs
  exact ⟨[],RdX.nil _ _ _ _,fun z hz => by cases hz⟩
 ·simp at hcs
  subst hcs
  rw [hce] at hx
  have hlm : len <= m := by rw [hmm]; split <;> omega
  have hv : ∀ i,i < len -> ∃ z : α,(∀ j,j < sz -> w.cell? (ad.add (i * sz + j)) = (c z)[j]?) /\ (c z).length = sz /\ good z := fun i hi => by
   obtain ⟨cs',h1,h2⟩ := hx i (by omega)
   obtain ⟨_,hlen,hcell⟩ := World.cells?_some h1
   obtain ⟨z,rfl,hg⟩ := hel _ _ _ hlen h2
   exact ⟨z,fun j hj => by rw [<- Deep.add_add]; exact hcell j hj,hlen,hg⟩
  have hch := list_of (q := fun i z => (∀ j,j < sz -> w.cell? (ad.add (i * sz + j)) = (c z)[j]?) /\ (c z).length = sz /\ good z) hv
  obtain ⟨zs,hzl,hz⟩ := hch
  refine ⟨zs,⟨some ad,cap,by rw [hzl],by omega,(fun e => by cases e),?_⟩,fun z hm => ?_⟩
  ·by_cases hzs : zs = []
   ·exact .inl hzs
   ·have h0 : 0 < len := by rw [<- hzl]; exact List.length_pos_iff.2 hzs
    obtain ⟨z0,hz0⟩ : ∃ z,zs[0]? = some z := ⟨_,List.getElem?_eq_getElem (by omega)⟩
    obtain ⟨hc0,hl0,_⟩ := hz 0 z0 hz0
    have hcc := hc0 0 hsz
    obtain ⟨v0,hv0⟩ : ∃ v,(c z0)[0]? = some v := ⟨_,List.getElem?_eq_getElem (by omega)⟩
    rw [hv0,show ad.add (0 * sz + 0) = ad by simp [Addr.add]] at hcc
    have hsp := spot_of_cell hcc
    obtain ⟨b,off,sp⟩ := ad
    simp only at hsp
    subst hsp
    refine .inr ⟨b,off,rfl,trivial,?_,fun i z hzi => ⟨_,rfl,fun j u hu => ?_⟩⟩
    ·apply Nat.lt_of_not_le
     intro hle
     simp [World.cell?,Array.getElem?_eq_none hle] at hcc
    ·obtain ⟨hcj,hlj,_⟩ := hz i z hzi
     have hj : j < sz := by have := (List.getElem?_eq_some_iff.1 hu).1; omega
     have := hcj j hj
     rw [hu,add_add _ _ rfl] at this
     rw [Nat.add_assoc]
     exact this
  ·obtain ⟨i,hi⟩ := List.mem_iff_getElem?.1 hm
   exact (hz i z hi).2.2
theorem ty_el {H : Type} {enc : TypeId × Value -> H} {w : World} {base : Nat} {spare : Nat -> Bool} {held : Bool} (n : Nat) (cs : List Value) (y : DataW H × List MemPlace) (hl : cs.length = 2) (h : DataW.trod enc Tryz.prog w base spare held n 26 cs = some y) : ∃ z : Ty,cs = tyC z /\ z.2.size <= maxLen := by
 obtain ⟨xs,k,_,_,_,hxl,hfl⟩ := DataW.trod_struct Tryz.underlying26 h
 match cs,hl with
 | [c0,c1],_ =>
  match xs,hxl with
  | [y0,y1],_ =>
   have t0 := hfl 0 _ rfl
   have t1 := hfl 1 _ rfl
   simp [cellsInt,cellsStr] at t0 t1
   obtain ⟨z0,e0,_,_⟩ := DataW.trod_int Tryz.underlying3 t0
   obtain ⟨z1,e1,_,w1⟩ := DataW.trod_string Tryz.underlying9 t1
   simp at e0 e1
   exact ⟨(z0,z1),by rw [e0,e1]; rfl,w1⟩
theorem cellsI32f : Tryz.prog.cellsOf 21 = 1 := by kernel_rfl
theorem ins_el {H : Type} {enc : TypeId × Value -> H} {w : World} {base : Nat} {spare : Nat -> Bool} {held : Bool} (n : Nat) (cs : List Value) (y : DataW H × List MemPlace) (hl : cs.length = 7) (h : DataW.trod enc Tryz.prog w base spare held n 58 cs = some y) : ∃ z : Ins,cs = insC z /\ True := by
 obtain ⟨xs,k,_,_,_,hxl,hfl⟩ := DataW.trod_struct Tryz.underlying58 h
 match cs,hl with
 | [c0,c1,c2,c3,c4,c5,c6],_ =>
  match xs,hxl with
  | [y0,y1,y2,y3,y4,y5,y6],_ =>
   have t0 := hfl 0 _ rfl
   have t1 := hfl 1 _ rfl
   have t2 := hfl 2 _ rfl
   have t3 := hfl 3 _ rfl
   have t4 := hfl 4 _ rfl
   have t5 := hfl 5 _ rfl
   have t6 := hfl 6 _ rfl
   simp [cellsInt,cellsStr,cellsI32f] at t0 t1 t2 t3 t4 t5 t6
   obtain ⟨z0,e0,_,_⟩ := DataW.trod_int Tryz.underlying3 t0
   obtain ⟨z1,e1,_,_⟩ := DataW.trod_int Tryz.underlying21 t1
   obtain ⟨z2,e2,_,_⟩ := DataW.trod_int Tryz.underlying3 t2
   obtain ⟨z3,e3,_,_⟩ := DataW.trod_string Tryz.underlying9 t3
   obtain ⟨z4,e4,_,_⟩ := DataW.trod_string Tryz.underlying9 t4
   obtain ⟨z5,e5,_,_⟩ := DataW.trod_string Tryz.underlying9 t5
   obtain ⟨z6,e6,_,_⟩ := DataW.trod_string Tryz.underlying9 t6
   simp at e0 e1 e2 e3 e4 e5 e6
   exact ⟨(z0,z1,z2,z3,z4,z5,z6),by rw [e0,e1,e2,e3,e4,e5,e6]; rfl,trivial⟩
theorem hnd_el {H : Type} {enc : TypeId × Value -> H} {w : World} {base : Nat} {spare : Nat -> Bool} {held : Bool} (n : Nat) (cs : List Value) (y : DataW H × List MemPlace) (hl : cs.length = 4) (h : DataW.trod enc Tryz.prog w base spare held n 66 cs = some y) : ∃ z : Hnd,cs = hndC z /\ True := by
 obtain ⟨xs,k,_,_,_,hxl,hfl⟩ := DataW.trod_struct Tryz.underlying66 h
 match cs,hl with
 | [c0,c1,c2,c3],_ =>
  match xs,hxl with
  | [y0,y1,y2,y3],_ =>
   have t0 := hfl 0 _ rfl
   have t1 := hfl 1 _ rfl
   have t2 := hfl 2 _ rfl
   have t3 := hfl 3 _ rfl
   simp [cellsInt,cellsStr] at t0 t1 t2 t3
   obtain ⟨z0,e0,_,_⟩ := DataW.trod_int Tryz.underlying3 t0
   obtain ⟨z1,e1,_,_⟩ := DataW.trod_int Tryz.underlying3 t1
   obtain ⟨z2,e2,_,_⟩ := DataW.trod_int Tryz.underlying3 t2
   obtain ⟨z3,e3,_,_⟩ := DataW.trod_string Tryz.underlying9 t3
   simp at e0 e1 e2 e3
   exact ⟨(z0,z1,z2,z3),by rw [e0,e1,e2,e3]; rfl,trivial⟩
def RdM (w : World) (v : Value) (m : Mth) : Prop := ∃ vp vc vh,v = .agg #[.string m.name,vp,.int .i64 m.ret.1,.string m.ret.2,.bool m.st,.bool m.ab,.int .i64 m.locals,vc,vh] /\ RdX 2 (sP tyC) anyB w vp m.params /\ RdX 7 (sP insC) anyB w vc m.code /\ RdX 4 (sP hndC) anyB w vh m.hs
theorem cellsMth : Tryz.prog.cellsOf 30 = 9 := by kernel_rfl
theorem cellsHnd : Tryz.prog.cellsOf 66 = 4 := by kernel_rfl
theorem cellsInsf : Tryz.prog.cellsOf 58 = 7 := by kernel_rfl
theorem cellsBoolf : Tryz.prog.cellsOf 4 = 1 := by kernel_rfl
theorem cellsTysf : Tryz.prog.cellsOf 24 = 1 /\ Tryz.prog.cellsOf 27 = 1 /\ Tryz.prog.cellsOf 28 = 1 := by refine ⟨by kernel_rfl,by kernel_rfl,by kernel_rfl⟩
theorem mth_open {H : Type} {enc : TypeId × Value -> H} {w : World} {base b0 : Nat} {spare : Nat -> Bool} {held : Bool} {r : Reach} {v : Value} {d : DataW H} {p : List MemPlace}
  (hv : Value.okWide Tryz.prog w r b0 30 v) (h : DataW.Trod enc Tryz.prog w base spare held 30 v d p) :
  ∃ m : Mth,RdM w v m /\ ∀ t ∈ m.params,t.2.size <= maxLen := by
 obtain ⟨⟨cs⟩,rfl,hsz⟩ := okWide_struct Tryz.underlying30 hv
 rw [cellsMth] at hsz
 obtain ⟨fuel,hf⟩ := h
 obtain ⟨xs,n,_,hx,_,hlen,hfl⟩ := DataW.trod_struct Tryz.underlying30 hf
 match cs,hsz with
 | [c0,c1,c2,c3,c4,c5,c6,c7,c8],_ =>
  match xs,hlen with
  | [y0,y1,y2,y3,y4,y5,y6,y7],_ =>
   have t0 := hfl 0 _ rfl
   have t1 := hfl 1 _ rfl
   have t2 := hfl 2 _ rfl
   have t3 := hfl 3 _ rfl
   have t4 := hfl 4 _ rfl
   have t5 := hfl 5 _ rfl
   have t6 := hfl 6 _ rfl
   have t7 := hfl 7 _ rfl
   simp [Value.cells,cellsInt,cellsStr,cellsBoolf,cellsTy,cellsTysf.1,cellsTysf.2.1,cellsTysf.2.2] at t0 t1 t2 t3 t4 t5 t6 t7
   obtain ⟨z0,e0,_,_⟩ := DataW.trod_string Tryz.underlying9 t0
   obtain ⟨z2,e2,_⟩ := ty_el _ _ _ rfl t2
   obtain ⟨z3,e3,_⟩ := DataW.trod_bool Tryz.underlying4 t3
   obtain ⟨z4,e4,_⟩ := DataW.trod_bool Tryz.underlying4 t4
   obtain ⟨z5,e5,_,_⟩ := DataW.trod_int Tryz.underlying3 t5
   obtain ⟨zp,rp,gp⟩ := list_open (c := tyC) (fun z => z.2.size <= maxLen) Tryz.underlying24 cellsTy (by decide) ty_el t1
   obtain ⟨zc,rc,_⟩ := list_open (c := insC) (fun _ => True) Tryz.underlying27 cellsInsf (by decide) ins_el t6
   obtain ⟨zh,rh,_⟩ := list_open (c := hndC) (fun _ => True) Tryz.underlying28 cellsHnd (by decide) hnd_el t7
   simp [tyC] at e0 e2 e3 e4 e5
   obtain ⟨e2a,e2b⟩ := e2
   subst e0 e2a e2b e3 e4 e5
   exact ⟨⟨z0,zp,z2,z3,z4,z5,zc,zh⟩,⟨_,_,_,rfl,rp,rc,rh⟩,gp⟩
end Go.Proofs.YtpkjlgdbaajpoaaGreat.R
