/- Texts that the proof is made of, joined. No condition. -/
import Derived.Test.YtofnbapnmhibaaaGreatS62
import Derived.Test.YtofnbapnmhibaaaGreatS64
import Derived.Deep.RegionHeld3
import Derived.Test.YtofnbapnmhibaaaGreatS61
import Derived.Test.YtofnbapnmhibaaaGreatS63
import Derived.Deep.LoopGhost
import Derived.Test.YtofnbapnmhibaaaGreatS6H
set_option linter.unusedVariables false
set_option linter.unusedSimpArgs false
set_option maxRecDepth 100000
set_option maxHeartbeats 16000000
namespace Go.Proofs.YtofnbapnmhibaaaGreat.D
open Go.RowKit
theorem typeL_len (t : Ty) : (typeL t).length <= t.2.size + 2 := by
 unfold typeL typeT
 split
 ·show 1 <= _; omega
 split
 ·show 1 <= _; omega
 split
 ·show 1 <= _; omega
 split
 ·show 1 <= _; omega
 split
 ·rw [data_app,data_app,List.length_append,List.length_append,Lib.size_eq]
  show 1 + _ + 1 <= _
  omega
 ·show 0 <= _; omega
theorem flat_len (ts : List Ty) (m : Nat) (h : ∀ u ∈ ts,u.2.size <= m) : (ts.flatMap typeL).length <= ts.length * (m + 2) := by
 induction ts with
 | nil => simp
 | cons t ts ih =>
  have h1 := ih (fun u hu => h u (List.mem_cons_of_mem _ hu))
  have h2 := typeL_len t
  have h3 := h t (List.mem_cons_self ..)
  rw [List.flatMap_cons,List.length_append,List.length_cons,Nat.add_mul]
  omega
theorem flat_take (ts : List Ty) (k : Nat) (t : Ty) (h : ts[k]? = some t) : (ts.take (k + 1)).flatMap typeL = (ts.take k).flatMap typeL ++ typeL t := by
 obtain ⟨hk,rfl⟩ := List.getElem?_eq_some_iff.1 h
 rw [List.take_succ_eq_append_getElem hk,List.flatMap_append,List.flatMap_cons,List.flatMap_nil,List.append_nil]
theorem flat_take_len (ts : List Ty) (k m : Nat) (h : ∀ u ∈ ts,u.2.size <= m) : ((ts.take k).flatMap typeL).length <= ts.length * (m + 2) := by
 refine Nat.le_trans (flat_len (ts.take k) m (fun u hu => h u (List.mem_of_mem_take hu))) ?_
 exact Nat.mul_le_mul_right _ (by rw [List.length_take]; omega)
theorem of_any (v : Value) (ts : List Ty) (k0 : Int) (c0 : ByteArray) (w : World) (hr : RdT w v ts) (hlen : ts.length <= 1000) (hc : ∀ u ∈ ts,u.2.size <= 1000000) (ht : c0.size <= 1000000) :
  Calls Tryz.prog 71 #[v,.agg #[.int .i64 k0,.string c0]] w fun e w' => e = .returned (.string (bx (ofL ts (k0,c0)))) /\ Below w.heap.size w w' := by
 obtain ⟨p,cap,rfl,h1,h2,h3⟩ := id hr
 have HC := hid hc
 have HT : Hid (∀ k,((ts.take k).flatMap typeL).length <= ts.length * 1000002) := hid (fun k => flat_take_len ts k 1000000 hc)
 have HL := hid (typeL_len (k0,c0))
 have HR := hid hr
 clear hc hr h1 h2 h3
 go_enter Tryz.func71,Tryz.ntmps71
 go_wp2_with fail
 refine (bld_byte (w.heap.size + 1) (w.heap.size + 1) [] 40 40 rfl _ ?_ (by decide) (by simp)).mono ?_
 ·have := bld_new (w.alloc (.cells #[.int .i64 k0,.string c0] 25))
  simpa using this
 rintro e w1 ⟨rfl,hB1,hb1⟩
 have hbl1 : Below (w.heap.size + 1) (w.alloc (.cells #[.int .i64 k0,.string c0] 25)) w1 := ((Below.refl _ _).alloc (by simp) _).trans hb1
 clear hb1
 go_wp2_with fail
 go_loopw [11] (fun i wr => ∃ k : Nat,k <= ts.length /\ i = .int .i64 k /\ Bld wr (w.heap.size + 1) (w.heap.size + 1) (40 :: (ts.take k).flatMap typeL) /\ Below (w.heap.size + 1) (w.alloc (.cells #[.int .i64 k0,.string c0] 25)) wr) (fun i _ => ts.length - (intOf i).toNat)
 case atStart => exact ⟨0,Nat.zero_le _,rfl,by simpa using hB1,hbl1⟩
 case round =>
  clear hB1 hbl1
  obtain ⟨k,hk,rfl,hB,hbl⟩ := hrel
  have hs := hbl.size
  simp at hs
  by_cases hlt : k < ts.length
  ·obtain ⟨⟨x0,x1⟩,hx⟩ : ∃ t,ts[k]? = some t := ⟨_,List.getElem?_eq_getElem hlt⟩
   have hr2 := HR.out.below (((Below.refl w.heap.size w).alloc (Nat.le_refl _) (.cells #[.int .i64 k0,.string c0] 25)).trans (hbl.mono (by omega))) (Nat.le_refl _)
   obtain ⟨p',cap',e',g1,_,g3⟩ := hr2
   simp only [Value.slice.injEq,true_and] at e'
   obtain ⟨rfl,rfl⟩ := e'
   obtain ⟨⟨b,off,spot⟩,rfl⟩ : ∃ a,p = some a := by
    cases p with
    | none =>
     obtain ⟨p'',_,e'',_,g2,_⟩ := HR.out
     simp only [Value.slice.injEq] at e''
     have := g2 e''.1.symm
     subst this
     simp at hlt
    | some a => exact ⟨a,rfl⟩
   obtain rfl : spot = none := g1 _ rfl (fun e => by subst e; simp at hlt)
   obtain ⟨cx0,cx1⟩ := g3 _ rfl k _ hx
   simp only at cx0 cx1
   have hx1 := HC.out _ (List.mem_of_getElem? hx)
   simp only at hx1
   have HX := hid (flat_take ts k _ hx)
   have hTL := HT.out k
   have hTy := typeL_len (x0,x1)
   simp only at hTy
   clear g1 g3 hx
   go_wp2_with fail
   refine (type_any x0 x1 _ (by omega)).mono ?_
   rintro e w2 ⟨rfl,hb2⟩
   have hB2 := hB.below (((Below.refl wr.heap.size wr).alloc (Nat.le_refl _) _).trans (hb2.mono (by simp))) (Nat.le_refl _)
   have hs2 := hb2.size
   simp at hs2
   go_wp2_with fail
   refine (bld_str _ _ _ _ _ hB2 ?_ ?_).mono ?_
   ·show _ + (typeT x0 x1).size <= _
    rw [Lib.size_eq]
    show _ + (typeL (x0,x1)).length <= _
    simp only [List.length_cons]
    omega
   ·omega
   rintro e w3 ⟨rfl,hB3,hb3⟩
   have hbl3 : Below (w.heap.size + 1) (w.alloc (.cells #[.int .i64 k0,.string c0] 25)) w3 := ((hbl.alloc (by omega) _).trans (hb2.mono (by simp; omega))).trans hb3
   have hB3' : Bld w3 (w.heap.size + 1) (w.heap.size + 1) (40 :: (ts.take (k + 1)).flatMap typeL) := by rw [HX.out]; exact hB3
   clear hB3 hb3 hbl hB hB2 hb2 hTL hTy hs2 cx0 cx1
   go_wp2_with fail
   go_roundw
   case rel => exact ⟨k + 1,by omega,by go_num,hB3',hbl3⟩
   case measure => simp [intOf]; omega
  ·have hkk : k = ts.length := by omega
   have hTL := HT.out k
   have HK : Hid ((ts.take k).flatMap typeL = ts.flatMap typeL) := hid (by rw [List.take_of_length_le (by omega)])
   have hTy := HL.out
   have hc0 : wr.cell? ⟨w.heap.size,0,none⟩ = some (.int .i64 k0) := (hbl.cell (p := ⟨w.heap.size,0,none⟩) (by simp)).trans (by simp)
   have hc1 : wr.cell? ⟨w.heap.size,1,none⟩ = some (.string c0) := (hbl.cell (p := ⟨w.heap.size,1,none⟩) (by simp)).trans (by simp)
   clear hkk
   go_wp2_with fail
   refine (bld_byte (w.heap.size + 1) (w.heap.size + 1) _ 41 41 rfl _ hB (by simp only [List.length_cons]; omega) (by omega)).mono ?_
   rintro e w4 ⟨rfl,hB4,hb4⟩
   have hd0 : w4.cell? ⟨w.heap.size,0,none⟩ = some (.int .i64 k0) := (hb4.cell (p := ⟨w.heap.size,0,none⟩) (by simp)).trans hc0
   have hd1 : w4.cell? ⟨w.heap.size,1,none⟩ = some (.string c0) := (hb4.cell (p := ⟨w.heap.size,1,none⟩) (by simp)).trans hc1
   have hs4 := hb4.size
   have hbl4 := hbl.trans hb4
   clear hc0 hc1 hB hbl hb4
   go_wp2_with fail
   refine (type_any k0 c0 _ (by omega)).mono ?_
   rintro e w5 ⟨rfl,hb5⟩
   have hB5 := hB4.below hb5 (Nat.le_refl _)
   have hs5 := hb5.size
   have hbl5 := hbl4.trans (hb5.mono (by omega))
   clear hd0 hd1 hB4 hbl4 hb5
   go_wp2_with fail
   refine (bld_str _ _ _ _ _ hB5 ?_ ?_).mono ?_
   ·show _ + (typeT k0 c0).size <= _
    rw [Lib.size_eq]
    show _ + (typeL (k0,c0)).length <= _
    simp only [List.length_cons,List.length_append,List.length_nil]
    omega
   ·omega
   rintro e w6 ⟨rfl,hB6,hb6⟩
   have hs6 := hb6.size
   have hbl6 := hbl5.trans hb6
   clear hB5 hbl5 hb6
   go_wp2_with fail
   refine (bld_done _ _ _ _ hB6 (by omega)).mono ?_
   rintro e w7 ⟨rfl,hb7⟩
   go_wp2_with fail
   go_ret
   refine ⟨ret_str ?_,(((Below.refl w.heap.size w).alloc (Nat.le_refl _) _).trans ((hbl6.trans hb7).mono (by omega)))⟩
   rw [HK.out]
   show (⟨(_ : List UInt8).toArray⟩ : ByteArray) = bx (ofL ts (k0,c0))
   unfold bx ofL typeL
   simp
end Go.Proofs.YtofnbapnmhibaaaGreat.D
namespace Go.Proofs.YtofnbapnmhibaaaGreat.A
open Go.RowKit Go.Proofs.YtofnbapnmhibaaaGreat.D Go.Proofs.YtofnbapnmhibaaaGreat.O
abbrev Fld : Type := ByteArray × Ty × Bool
abbrev Hnd : Type := Int × Int × Int × ByteArray
structure Mth where
 name : ByteArray
 params : List Ty
 ret : Ty
 st : Bool
 ab : Bool
 locals : Int
 code : List Ins
 hs : List Hnd
structure Cls where
 name : ByteArray
 super : ByteArray
 ifaces : List ByteArray
 kind : Int
 fields : List Fld
 methods : List Mth
abbrev Arch : Type := List Cls
instance tyDec : DecidableEq Ty := inferInstanceAs (DecidableEq (Int × ByteArray))
instance b4Dec : DecidableEq (ByteArray × ByteArray × ByteArray × ByteArray) := inferInstance
instance insDec : DecidableEq Ins := @instDecidableEqProd _ _ inferInstance (@instDecidableEqProd _ _ inferInstance (@instDecidableEqProd _ _ inferInstance b4Dec))
instance hndDec : DecidableEq Hnd := inferInstanceAs (DecidableEq (Int × Int × Int × ByteArray))
instance fldDec : DecidableEq Fld := inferInstanceAs (DecidableEq (ByteArray × Ty × Bool))
theorem Mth.eq_iff (a b : Mth) : (a.name = b.name /\ a.params = b.params /\ a.ret = b.ret /\ a.st = b.st /\ a.ab = b.ab /\ a.locals = b.locals /\ a.code = b.code /\ a.hs = b.hs) ↔ a = b := by
 cases a; cases b; simp
instance : DecidableEq Mth := fun a b => decidable_of_iff (a.name = b.name /\ a.params = b.params /\ a.ret = b.ret /\ a.st = b.st /\ a.ab = b.ab /\ a.locals = b.locals /\ a.code = b.code /\ a.hs = b.hs) (Mth.eq_iff a b)
theorem Cls.eq_iff (a b : Cls) : (a.name = b.name /\ a.super = b.super /\ a.ifaces = b.ifaces /\ a.kind = b.kind /\ a.fields = b.fields /\ a.methods = b.methods) ↔ a = b := by
 cases a; cases b; simp
instance : DecidableEq Cls := fun a b => decidable_of_iff (a.name = b.name /\ a.super = b.super /\ a.ifaces = b.ifaces /\ a.kind = b.kind /\ a.fields = b.fields /\ a.methods = b.methods) (Cls.eq_iff a b)
def holdsB (t : Ty) : Bool := rightB t.1 t.2 && !decide (t.1 = 5)
def upToB (n m : Int) : Bool := decide (0 <= n /\ n <= m)
def allB {α : Type} (m : Nat) (f : α -> Bool) (l : List α) : Bool := decide (l.length <= m) && l.all f
def fldB (f : Fld) : Bool := nameB f.1 && holdsB f.2.1
def hndB (h : Hnd) : Bool := upToB h.1 2000 && upToB h.2.1 2000 && upToB h.2.2.1 2000 && nameB h.2.2.2
def mthB (m : Mth) : Bool := nameB m.name && allB 8 holdsB m.params && rightB m.ret.1 m.ret.2 && upToB m.locals 200 && allB 2000 rightI m.code && allB 50 hndB m.hs
def clsB (c : Cls) : Bool := nameB c.name && nameB c.super && allB 20 nameB c.ifaces && decide (1 <= c.kind /\ c.kind <= 4) && allB 100 fldB c.fields && allB 100 mthB c.methods
def formedB (a : Arch) : Bool := allB 400 clsB a
abbrev WS : Type := List ByteArray × List UInt8
def wText (s : ByteArray) (st : WS) : WS := (putL st.1 s,st.2 ++ two (pos st.1 s : Int))
def wNums (zs : List Int) (st : WS) : WS := (st.1,st.2 ++ nums zs)
def wInt (n : Int) (st : WS) : WS := (st.1,st.2 ++ nb (foldN n))
def wAll {α : Type} (f : α -> WS -> WS) : List α -> WS -> WS
 | [],st => st
 | x :: l,st => wAll f l (f x st)
def wList {α : Type} (f : α -> WS -> WS) (l : List α) (st : WS) : WS := wAll f l (wNums [(l.length : Int)] st)
def bitN (b : Bool) (n : Int) : Int := if b then n else 0
def ofT (ps : List Ty) (r : Ty) : ByteArray := bx (ofL ps r)
def wFld (f : Fld) (st : WS) : WS := wNums [bitN f.2.2 1] (wText (typeT f.2.1.1 f.2.1.2) (wText f.1 st))
def wHnd (h : Hnd) (st : WS) : WS := wText h.2.2.2 (wNums [h.1,h.2.1,h.2.2.1] st)
def wUse (x : Ins) (st : WS) : WS :=
 if usesI x.1 = 1 then wInt x.2.1 st else if usesI x.1 = 2 then wText x.2.2.2.1 st else if usesI x.1 = 3 then wNums [x.2.2.1] st else
 if usesI x.1 = 4 then wText x.2.2.2.2.2.1 (wText x.2.2.2.2.1 st) else if usesI x.1 = 5 then wText x.2.2.2.2.2.2 (wText x.2.2.2.2.2.1 (wText x.2.2.2.2.1 st)) else
 if usesI x.1 = 6 then wText x.2.2.2.2.1 st else st
def wIns (x : Ins) (st : WS) : WS := wUse x (wNums [x.1] st)
def wMth (m : Mth) (st : WS) : WS :=
 wList wHnd m.hs (wList wIns m.code (wNums [bitN m.st 1 + bitN m.ab 2,m.locals] (wText (ofT m.params m.ret) (wText m.name st))))
def wCls (c : Cls) (st : WS) : WS :=
 wList wMth c.methods (wList wFld c.fields (wNums [c.kind] (wList wText c.ifaces (wText c.super (wText c.name st)))))
def written (a : Arch) : WS := wList wCls a ([],[])
def rightA (a : Arch) : Bool := formedB a && decide ((written a).1.length <= 10000)
abbrev Ps (α : Type) : Type := List UInt8 -> Except Nat (α × List UInt8)
def pb {α β : Type} (p : Ps α) (q : α -> Ps β) : Ps β := fun l => match p l with | .ok (x,r) => q x r | .error e => .error e
def es : ByteArray := ⟨#[]⟩
theorem fold_back {n : Int} (h1 : -2147483648 <= n) (h2 : n <= 2147483647) : foldN n <= 4294967295 /\ unfoldN (foldN n) = n := by
 unfold foldN unfoldN
 by_cases h : n < 0
 ·rw [if_pos h]
  obtain ⟨m,hm⟩ : ∃ m : Nat,n = -(m : Int) - 1 := ⟨(-n - 1).toNat,by omega⟩
  subst hm
  have e : (-2 * (-(m : Int) - 1) - 1).toNat = 2 * m + 1 := by omega
  rw [e,if_pos (by omega)]
  constructor <;> omega
 ·rw [if_neg h]
  obtain ⟨m,hm⟩ : ∃ m : Nat,n = (m : Int) := ⟨n.toNat,by omega⟩
  subst hm
  have e : (2 * (m : Int)).toNat = 2 * m := by omega
  rw [e,if_neg (by omega)]
  constructor <;> omega
theorem putL_eq (L : List ByteArray) (s : ByteArray) : putL L s = L ++ (if s ∈ L then [] else [s]) := by
 unfold putL
 split <;> simp
end Go.Proofs.YtofnbapnmhibaaaGreat.A
namespace Go.Proofs.YtofnbapnmhibaaaGreat.D
open Go.RowKit
def kb : ByteArray := ⟨#[40,73,76,65,59,41,86]⟩
def kts : List Ty := [(1,⟨#[]⟩),(4,⟨#[65]⟩)]
theorem k1 : parseR kb.data.toList = (kts,(5,⟨#[]⟩),true) := by kernel_rfl
theorem k2 : parseR (⟨#[40,86,41,86]⟩ : ByteArray).data.toList = ([],t0,false) := by kernel_rfl
theorem k3 : oneR (⟨#[83]⟩ : ByteArray).data.toList = ((2,⟨#[]⟩),true) := by kernel_rfl
theorem k4 : nameB ⟨#[97,95,49]⟩ = true := by kernel_rfl
theorem k5 : nameB ⟨#[49,97]⟩ = false := by kernel_rfl
theorem k6 : rightB 2 ⟨#[]⟩ = true := by kernel_rfl
theorem k7 : typeT 4 ⟨#[65]⟩ = ⟨#[76,65,59]⟩ := by kernel_rfl
theorem k8 : bx (ofL kts (5,⟨#[]⟩)) = kb := by kernel_rfl
end Go.Proofs.YtofnbapnmhibaaaGreat.D
namespace Go.Proofs.YtofnbapnmhibaaaGreat.A
open Go.RowKit Go.Proofs.YtofnbapnmhibaaaGreat.D Go.Proofs.YtofnbapnmhibaaaGreat.O
def okI (x : Ins) : Prop := -2147483648 <= x.2.1 /\ x.2.1 <= 2147483647
def wfM (m : Mth) : Prop := ∀ x ∈ m.code,okI x
def wfC (c : Cls) : Prop := ∀ m ∈ c.methods,wfM m
def wfA (a : Arch) : Prop := ∀ c ∈ a,wfC c
theorem allB_iff {α : Type} {m : Nat} {f : α -> Bool} {l : List α} : allB m f l = true ↔ l.length <= m /\ ∀ x ∈ l,f x = true := by
 unfold allB
 simp
theorem ofT_data (ps : List Ty) (r : Ty) : (ofT ps r).data.toList = ofL ps r := bx_data _
theorem upToB_iff {n m : Int} : upToB n m = true ↔ 0 <= n /\ n <= m := by unfold upToB; simp
theorem holdsB_iff {t : Ty} : holdsB t = true ↔ rightB t.1 t.2 = true /\ ¬ t.1 = 5 := by unfold holdsB; simp
end Go.Proofs.YtofnbapnmhibaaaGreat.A
namespace Go.Proofs.YtofnbapnmhibaaaGreat.A
open Go.RowKit Go.Proofs.YtofnbapnmhibaaaGreat.D Go.Proofs.YtofnbapnmhibaaaGreat.O
theorem name_size {s : ByteArray} (h : nameB s = true) : s.size <= 64 := by
 unfold nameB nameL at h
 rw [Lib.size_eq]
 simp only [Bool.and_eq_true,decide_eq_true_eq] at h
 omega
theorem typeT_size {k : Int} {c : ByteArray} (h : rightB k c = true) : (typeT k c).size <= 66 := by
 unfold rightB at h
 unfold typeT
 repeat' split
 all_goals first | (simp; done) | skip
 all_goals first | (have : (⟨#[73]⟩ : ByteArray).size = 1 := rfl; decide) | skip
 ·rename_i h4
  rw [if_pos h4] at h
  have := name_size h
  rw [ByteArray.size_append,ByteArray.size_append]
  have e1 : (⟨#[76]⟩ : ByteArray).size = 1 := rfl
  have e2 : (⟨#[59]⟩ : ByteArray).size = 1 := rfl
  omega
theorem typeL_len66 {t : Ty} (h : rightB t.1 t.2 = true) : (typeL t).length <= 66 := by
 have := typeT_size h
 rw [Lib.size_eq] at this
 exact this
theorem ofL_len {ps : List Ty} {r : Ty} (hps : ∀ q ∈ ps,rightB q.1 q.2 = true) (hl : ps.length <= 8) (hr : rightB r.1 r.2 = true) : (ofL ps r).length <= 596 := by
 have h1 : ∀ l : List Ty,(∀ q ∈ l,rightB q.1 q.2 = true) -> (l.flatMap typeL).length <= l.length * 66 := by
  intro l
  induction l with
  | nil => intro _; simp
  | cons t l ih =>
   intro h
   have := ih (fun q hq => h q (by simp [hq]))
   have h2 := typeL_len66 (h t (by simp))
   rw [List.flatMap_cons,List.length_append,List.length_cons,Nat.succ_mul]
   omega
 have := h1 ps hps
 have h2 := typeL_len66 hr
 unfold ofL
 rw [List.length_cons,List.length_append,List.length_cons]
 omega
theorem parses_size {d : ByteArray} (h : parsesB d = true) : d.size <= 596 := by
 unfold parsesB at h
 rcases hp : parseR d.data.toList with ⟨ps,r,ok⟩
 rw [hp] at h
 simp only at h
 subst h
 obtain ⟨h1,h2,h3,h4⟩ := parseR_text hp
 rw [Lib.size_eq,<- h1]
 exact ofL_len (fun q hq => (h2 q hq).1) h3 h4
theorem ofT_size {ps : List Ty} {r : Ty} (hps : ∀ q ∈ ps,holdsB q = true) (hl : ps.length <= 8) (hr : rightB r.1 r.2 = true) : (ofT ps r).size <= 596 := by
 rw [Lib.size_eq,ofT_data]
 exact ofL_len (fun q hq => (holdsB_iff.1 (hps q hq)).1) hl hr
def Ext (f : WS -> WS) (n : Nat) : Prop := ∀ st : WS,∃ M bs,f st = (st.1 ++ M,st.2 ++ bs) /\ M.length <= n /\ bs.length <= 30 * n /\ ∀ s ∈ M,s.size <= 1000
theorem Ext.id : Ext (fun st => st) 0 := fun st => ⟨[],[],by simp,by simp,by simp,by simp⟩
theorem Ext.comp {f g F : WS -> WS} {a b n : Nat} (h1 : Ext f a) (h2 : Ext g b) (hF : ∀ st,F st = g (f st)) (hn : a + b <= n) : Ext F n := by
 intro st
 obtain ⟨M1,b1,e1,l1,m1,s1⟩ := h1 st
 obtain ⟨M2,b2,e2,l2,m2,s2⟩ := h2 (f st)
 refine ⟨M1 ++ M2,b1 ++ b2,by rw [hF,e2,e1]; simp,by rw [List.length_append]; omega,by rw [List.length_append]; omega,fun s hs => ?_⟩
 rcases List.mem_append.1 hs with h | h
 ·exact s1 s h
 ·exact s2 s h
theorem Ext.mono {f : WS -> WS} {a n : Nat} (h : Ext f a) (hn : a <= n) : Ext f n := Ext.comp h Ext.id (fun _ => rfl) hn
theorem ext_text {s : ByteArray} (h : s.size <= 1000) : Ext (wText s) 1 := by
 intro st
 refine ⟨if s ∈ st.1 then [] else [s],two (pos st.1 s : Int),by simp only [wText,putL_eq],by split <;> simp,by simp [two],fun x hx => ?_⟩
 split at hx
 ·simp at hx
 ·rw [List.mem_singleton.1 hx]; exact h
theorem ext_nums {zs : List Int} {n : Nat} (h : ∀ z ∈ zs,z <= 9223372036854775807) (hl : zs.length <= 3 * n) : Ext (wNums zs) n := by
 have hb : (nums zs).length <= 10 * zs.length := by
  clear hl
  induction zs with
  | nil => simp [nums]
  | cons z l ih =>
   have := ih (fun y hy => h y (by simp [hy]))
   have h1 := nb_len10 (v := cnt z) (toNat_u64 (h z (by simp))).out
   show (nb (cnt z) ++ nums l).length <= _
   rw [List.length_append,List.length_cons]
   omega
 intro st
 exact ⟨[],nums zs,by simp [wNums],by simp,by omega,by simp⟩
theorem ext_int {z : Int} (h1 : -2147483648 <= z) (h2 : z <= 2147483647) : Ext (wInt z) 1 := by
 have := nb_len10 (v := foldN z) (Nat.lt_of_le_of_lt (fold_back h1 h2).1 (by decide))
 intro st
 exact ⟨[],nb (foldN z),by simp [wInt],by simp,by omega,by simp⟩
theorem ext_all {α : Type} {f : α -> WS -> WS} {c : α -> Nat} : ∀ l : List α,(∀ x ∈ l,Ext (f x) (c x)) -> Ext (wAll f l) ((l.map c).sum)
 | [],_ => Ext.id
 | x :: l,h => Ext.comp (h x (by simp)) (ext_all l (fun y hy => h y (by simp [hy]))) (fun _ => rfl) (by simp)
theorem ext_list {α : Type} {f : α -> WS -> WS} {c : α -> Nat} {l : List α} (h : ∀ x ∈ l,Ext (f x) (c x)) (hl : l.length <= 1000000) : Ext (wList f l) (1 + (l.map c).sum) :=
 Ext.comp (ext_nums (n := 1) (zs := [(l.length : Int)]) (by simp; omega) (by simp)) (ext_all l h) (fun _ => rfl) (Nat.le_refl _)
theorem ext_fld {f : Fld} (h : fldB f = true) : Ext (wFld f) 3 := by
 unfold fldB holdsB at h
 simp only [Bool.and_eq_true] at h
 have h1 := name_size h.1
 have h2 := typeT_size h.2.1
 refine Ext.comp (Ext.comp (ext_text (s := f.1) (by omega)) (ext_text (s := typeT f.2.1.1 f.2.1.2) (by omega)) (fun _ => rfl) (Nat.le_refl _)) (ext_nums (n := 1) (zs := [bitN f.2.2 1]) ?_ (by simp)) (fun _ => rfl) (Nat.le_refl _)
 intro z hz
 rw [List.mem_singleton.1 hz]
 unfold bitN
 split <;> decide
theorem ext_hnd {h : Hnd} (hb : hndB h = true) : Ext (wHnd h) 2 := by
 unfold hndB at hb
 simp only [Bool.and_eq_true,upToB_iff] at hb
 obtain ⟨⟨⟨⟨f0,f1⟩,t0,t1⟩,a0,a1⟩,hn⟩ := hb
 have := name_size hn
 refine Ext.comp (ext_nums (n := 1) (zs := [h.1,h.2.1,h.2.2.1]) ?_ (by simp)) (ext_text (s := h.2.2.2) (by omega)) (fun _ => rfl) (Nat.le_refl _)
 intro z hz
 simp only [List.mem_cons,List.not_mem_nil,or_false] at hz
 rcases hz with rfl | rfl | rfl <;> omega
theorem right_sizes {x : Ins} (h : rightI x = true) : x.2.2.2.1.size <= 1000 /\ x.2.2.2.2.1.size <= 64 /\ x.2.2.2.2.2.1.size <= 64 /\ x.2.2.2.2.2.2.size <= 596 /\ 0 < x.1 /\ x.1 < 44 /\ 0 <= x.2.2.1 /\ x.2.2.1 <= 2000 := by
 obtain ⟨o,n,k,s,c,m,d⟩ := x
 unfold rightI at h
 simp only [Bool.and_eq_true,decide_eq_true_eq] at h
 obtain ⟨⟨hk,hu⟩,hw⟩ := h
 unfold knownB at hk
 simp only [decide_eq_true_eq] at hk
 have e0 : (⟨#[]⟩ : ByteArray).size = 0 := rfl
 unfold usedI at hu
 unfold withinB at hw
 simp only [Prod.mk.injEq] at hu
 obtain ⟨-,e1,e2,e3,e4,e5,e6⟩ := hu
 simp only at hw ⊢
 by_cases h2 : usesI o = 2
 ·simp [h2] at e2 e4 e5 e6 hw
  subst e2 e4 e5 e6
  simp only [e0]
  omega
 by_cases h3 : usesI o = 3
 ·simp [h3] at e3 e4 e5 e6 hw
  subst e3 e4 e5 e6
  simp only [e0]
  omega
 by_cases h4 : usesI o = 4
 ·simp [h4] at e2 e3 e6 hw
  subst e2 e3 e6
  have g1 := name_size hw.1
  have g2 := name_size hw.2
  simp only [e0]
  omega
 by_cases h5 : usesI o = 5
 ·simp [h5] at e2 e3 hw
  subst e2 e3
  have g1 := name_size hw.1.1
  have g2 := name_size hw.1.2
  have g3 := parses_size hw.2
  simp only [e0]
  omega
 by_cases h6 : usesI o = 6
 ·simp [h6] at e2 e3 e5 e6 hw
  subst e2 e3 e5 e6
  have g1 := name_size hw
  simp only [e0]
  omega
 ·simp [h2,h3,h4,h5,h6] at e2 e3 e4 e5 e6
  subst e2 e3 e4 e5 e6
  simp only [e0]
  omega
theorem ext_ins {x : Ins} (h : rightI x = true) (hi : okI x) : Ext (wIns x) 4 := by
 obtain ⟨s1,s2,s3,s4,o1,o2,k1,k2⟩ := right_sizes h
 refine Ext.comp (a := 1) (b := 3) (ext_nums (n := 1) (zs := [x.1]) (by simp; omega) (by simp)) ?_ (F := wIns x) (g := wUse x) (fun _ => rfl) (Nat.le_refl _)
 by_cases h1 : usesI x.1 = 1
 ·rw [show wUse x = wInt x.2.1 from funext fun st => by unfold wUse; rw [if_pos h1]]
  exact (ext_int hi.1 hi.2).mono (by decide)
 by_cases h2 : usesI x.1 = 2
 ·rw [show wUse x = wText x.2.2.2.1 from funext fun st => by unfold wUse; simp [h2]]
  exact (ext_text (by omega)).mono (by decide)
 by_cases h3 : usesI x.1 = 3
 ·rw [show wUse x = wNums [x.2.2.1] from funext fun st => by unfold wUse; simp [h3]]
  exact (ext_nums (n := 1) (by simp; omega) (by simp)).mono (by decide)
 by_cases h4 : usesI x.1 = 4
 ·refine Ext.comp (ext_text (s := x.2.2.2.2.1) (by omega)) (ext_text (s := x.2.2.2.2.2.1) (by omega)) (fun st => by unfold wUse; simp [h4]) (by decide)
 by_cases h5 : usesI x.1 = 5
 ·refine Ext.comp (a := 2) (Ext.comp (ext_text (s := x.2.2.2.2.1) (by omega)) (ext_text (s := x.2.2.2.2.2.1) (by omega)) (fun _ => rfl) (by decide)) (ext_text (s := x.2.2.2.2.2.2) (by omega)) (fun st => by unfold wUse; simp [h5]) (by decide)
 by_cases h6 : usesI x.1 = 6
 ·rw [show wUse x = wText x.2.2.2.2.1 from funext fun st => by unfold wUse; simp [h6]]
  exact (ext_text (by omega)).mono (by decide)
 ·rw [show wUse x = fun st => st from funext fun st => by unfold wUse; simp [h1,h2,h3,h4,h5,h6]]
  exact Ext.id.mono (by decide)
def costM (m : Mth) : Nat := 5 + m.code.length * 4 + m.hs.length * 2
def costC (c : Cls) : Nat := 6 + c.ifaces.length + c.fields.length * 3 + (c.methods.map costM).sum
def costA (a : Arch) : Nat := 1 + (a.map costC).sum
theorem sum_const {α : Type} (n : Nat) : ∀ l : List α,(l.map (fun _ => n)).sum = l.length * n
 | [] => by simp
 | x :: l => by rw [List.map_cons,List.sum_cons,sum_const n l,List.length_cons,Nat.succ_mul]; omega
theorem ext_mth {m : Mth} (h : mthB m = true) (hi : wfM m) : Ext (wMth m) (costM m) := by
 unfold mthB at h
 simp only [Bool.and_eq_true,allB_iff,upToB_iff] at h
 obtain ⟨⟨⟨⟨⟨hn,hps⟩,hr⟩,l0,l1⟩,hc⟩,hh⟩ := h
 have g1 := name_size hn
 have g2 := ofT_size hps.2 hps.1 hr
 have e1 := ext_list (f := wIns) (c := fun _ => 4) (l := m.code) (fun x hx => ext_ins (hc.2 x hx) (hi x hx)) (by omega)
 have e2 := ext_list (f := wHnd) (c := fun _ => 2) (l := m.hs) (fun x hx => ext_hnd (hh.2 x hx)) (by omega)
 rw [sum_const] at e1 e2
 have e0 : Ext (fun st => wNums [bitN m.st 1 + bitN m.ab 2,m.locals] (wText (ofT m.params m.ret) (wText m.name st))) 3 :=
  Ext.comp (a := 2) (b := 1) (Ext.comp (ext_text (s := m.name) (by omega)) (ext_text (s := ofT m.params m.ret) (by omega)) (fun _ => rfl) (by decide)) (ext_nums (n := 1) (zs := [bitN m.st 1 + bitN m.ab 2,m.locals]) (by
   intro z hz
   simp only [List.mem_cons,List.not_mem_nil,or_false] at hz
   rcases hz with rfl | rfl
   ·unfold bitN; split <;> split <;> decide
   ·omega) (by simp)) (fun _ => rfl) (by decide)
 exact Ext.comp (Ext.comp e0 e1 (fun _ => rfl) (Nat.le_refl _)) e2 (fun _ => rfl) (by unfold costM; omega)
theorem ext_cls {c : Cls} (h : clsB c = true) (hi : wfC c) : Ext (wCls c) (costC c) := by
 unfold clsB at h
 simp only [Bool.and_eq_true,allB_iff,decide_eq_true_eq] at h
 obtain ⟨⟨⟨⟨⟨hn,hs⟩,hi'⟩,hk⟩,hf⟩,hm⟩ := h
 have g1 := name_size hn
 have g2 := name_size hs
 have e1 := ext_list (f := wText) (c := fun _ => 1) (l := c.ifaces) (fun x hx => ext_text (by have := name_size (hi'.2 x hx); omega)) (by omega)
 have e2 := ext_list (f := wFld) (c := fun _ => 3) (l := c.fields) (fun x hx => ext_fld (hf.2 x hx)) (by omega)
 have e3 := ext_list (f := wMth) (c := costM) (l := c.methods) (fun x hx => ext_mth (hm.2 x hx) (hi x hx)) (by omega)
 rw [sum_const] at e1 e2
 exact Ext.comp (Ext.comp (Ext.comp (Ext.comp (Ext.comp (ext_text (s := c.name) (by omega)) (ext_text (s := c.super) (by omega)) (fun _ => rfl) (Nat.le_refl _)) e1 (fun _ => rfl) (Nat.le_refl _))
  (ext_nums (n := 1) (zs := [c.kind]) (by simp; omega) (by simp)) (fun _ => rfl) (Nat.le_refl _)) e2 (fun _ => rfl) (Nat.le_refl _)) e3 (fun _ => rfl) (by unfold costC; omega)
theorem ext_arc {a : Arch} (h : formedB a = true) (hi : wfA a) : Ext (wList wCls a) (costA a) := by
 unfold formedB at h
 rw [allB_iff] at h
 exact ext_list (fun x hx => ext_cls (h.2 x hx) (hi x hx)) (by omega)
end Go.Proofs.YtofnbapnmhibaaaGreat.A
namespace Go.Proofs.YtofnbapnmhibaaaGreat.A
open Go.RowKit Go.Proofs.YtofnbapnmhibaaaGreat.D Go.Proofs.YtofnbapnmhibaaaGreat.O
def iOne (o : Int) : Ins := (o,0,0,es,es,es,es)
def iNum (n : Int) : Ins := (1,n,0,es,es,es,es)
def iStr (s : ByteArray) : Ins := (2,0,0,s,es,es,es)
def iAt (o k : Int) : Ins := (o,0,k,es,es,es,es)
def iOf (o : Int) (c : ByteArray) : Ins := (o,0,0,es,c,es,es)
def iPart (o : Int) (c m : ByteArray) : Ins := (o,0,0,es,c,m,es)
def iCall (o : Int) (c m d : ByteArray) : Ins := (o,0,0,es,c,m,d)
abbrev BS : Type := List Ins × List Hnd
def bAdd (l : List Ins) (st : BS) : BS := (st.1 ++ l,st.2)
def bTry (f : Nat) (c s : ByteArray) (st : BS) : BS :=
 (st.1 ++ [iAt 19 ((st.1.length : Int) + 4)] ++ [iOne 6,iStr s,iOne 41],st.2 ++ [((f : Int),(st.1.length : Int),(st.1.length : Int) + 1,c)])
def bSet (i : Nat) (f : Ins -> Ins) (st : BS) : BS := (st.1.modify i f,st.2)
def selI (n m : Int) (l : List Int) : Int := l.getD (n % m).toNat 0
def selT (n m : Int) (l : List ByteArray) : ByteArray := l.getD (n % m).toNat es
def wordT (n : Int) : ByteArray := selT n 5 [⟨#[97]⟩,⟨#[98,99]⟩,⟨#[]⟩,⟨#[120,32,121]⟩,⟨#[48]⟩]
def classT (n : Int) : ByteArray := selT n 4 [⟨#[65]⟩,⟨#[66]⟩,⟨#[67]⟩,⟨#[68]⟩]
def snip (k : Nat) (n : Int) (st : BS) : BS :=
 match k with
 | 0 => bAdd [iAt 4 0,iOne 18,iOne 41] st
 | 1 => bAdd [iAt 4 0,iNum (n - 100),iOne 8,iAt 5 0] st
 | 2 => bAdd [iOne 42,iAt 5 0] st
 | 3 => bAdd [iAt 4 1,iStr (wordT n),iOne 16,iAt 5 1] st
 | 4 => bAdd [iAt 4 1,iOne 41] st
 | 5 => bAdd [iAt 4 2,iNum (n % 5 - 1),iAt 4 0,iOne 24] st
 | 6 => bAdd [iAt 4 2,iNum (n % 4),iOne 23,iAt 5 0] st
 | 7 => bTry st.1.length (selT (n / 4) 2 [⟨#[90,101,114,111,70,97,117,108,116]⟩,⟨#[70,97,117,108,116]⟩]) ⟨#[122,101,114,111]⟩ (bAdd [iAt 4 0,iNum (n % 7 - 3),iOne (selI n 4 [10,11,12,9]),iAt 5 0] st)
 | 8 => bAdd [iAt 4 0,iNum (n % 9),iOne (selI n 2 [14,15]),iAt 5 0] st
 | 9 => bAdd [iAt 4 0,iOne 13,iAt 5 0] st
 | 10 => bAdd [iAt 4 1,iOne 17,iAt 5 0] st
 | 11 => bTry st.1.length ⟨#[83,105,122,101,70,97,117,108,116]⟩ ⟨#[115,105,122,101]⟩ (bAdd [iNum (n % 6 - 1),iOne 21,iAt 5 2] st)
 | 12 => bAdd [iAt 4 2,iOne 22,iAt 5 0] st
 | 13 => bAdd [iAt 4 0,iAt 20 ((st.1.length : Int) + 4),iStr (wordT n),iOne 41] st
 | 14 => bAdd [iAt 19 ((st.1.length : Int) + 2)] (bSet (st.1.length + 3) (fun x => (x.1,x.2.1,(st.1.length : Int) + 11,x.2.2.2)) (bAdd [iAt 4 5,iAt 20 ((st.1.length : Int) + 10),iStr ⟨#[46]⟩,iOne 41,iAt 4 5,iNum 1,iOne 9,iAt 5 5] (bAdd [iNum (n % 4),iAt 5 5] st)))
 | 15 => bAdd [iStr (wordT n),iOne 7,iOne 16,iOne 41] st
 | 16 => bAdd [iOf 25 (classT n),iAt 5 3] st
 | 17 => bAdd [iOf 25 (classT n),iAt 5 3] st
 | 18 => bAdd [iOne 3,iAt 5 3] st
 | 19 => bAdd [iAt 4 3,iCall 34 ⟨#[66,97,115,101]⟩ ⟨#[114,117,110]⟩ ⟨#[40,41,73]⟩,iAt 5 0] st
 | 20 => bAdd [iAt 4 3,iOf 30 ⟨#[73]⟩,iAt 5 4] st
 | 21 => bTry st.1.length ⟨#[78,117,108,108,70,97,117,108,116]⟩ ⟨#[110,117,108,108]⟩ (bAdd [iAt 4 4,iCall 35 ⟨#[73]⟩ ⟨#[114,117,110]⟩ ⟨#[40,41,73]⟩,iAt 5 0] st)
 | 22 => bAdd [iAt 4 3,iCall 34 ⟨#[66,97,115,101]⟩ ⟨#[110,97,109,101]⟩ ⟨#[40,41,83]⟩,iOne 41] st
 | 23 => bAdd [iAt 4 3,iAt 4 0,iPart 27 ⟨#[66,97,115,101]⟩ ⟨#[120]⟩] st
 | 24 => bAdd [iAt 4 3,iPart 26 ⟨#[66,97,115,101]⟩ ⟨#[120]⟩,iAt 5 0] st
 | 25 => bAdd [iAt 4 3,iNum n,iPart 27 ⟨#[66,97,115,101]⟩ ⟨#[119]⟩] st
 | 26 => bAdd [iPart 28 ⟨#[65]⟩ ⟨#[99,111,117,110,116]⟩,iNum 1,iOne 8,iPart 29 ⟨#[65]⟩ ⟨#[99,111,117,110,116]⟩] st
 | 27 => bAdd [iAt 4 0,iPart 29 (selT n 2 [⟨#[85,116,105,108]⟩,⟨#[68]⟩]) ⟨#[119,97,115,116,101]⟩] st
 | 28 => bAdd [iAt 4 0,iCall 36 ⟨#[85,116,105,108]⟩ (selT n 4 [⟨#[105,110,99]⟩,⟨#[116,119,105,99,101]⟩,⟨#[119,111,114,107]⟩,⟨#[100,111,119,110]⟩]) ⟨#[40,73,41,73]⟩,iAt 5 0] st
 | 29 => bAdd [iAt 4 3,iCall 36 ⟨#[85,116,105,108]⟩ ⟨#[115,97,109,101]⟩ ⟨#[40,76,66,97,115,101,59,41,76,66,97,115,101,59]⟩,iAt 5 3] st
 | 30 => bTry st.1.length (selT n 4 [⟨#[69,114,114]⟩,⟨#[69,114,114,50]⟩,⟨#[70,97,117,108,116]⟩,⟨#[78,117,108,108,70,97,117,108,116]⟩]) ⟨#[101,114,114]⟩ (bAdd [iCall 36 ⟨#[85,116,105,108]⟩ ⟨#[102,97,105,108]⟩ ⟨#[40,41,86]⟩] st)
 | 31 => bAdd [iAt 4 3,iAt 4 3,iPart 27 ⟨#[66,97,115,101]⟩ ⟨#[110,101,120,116]⟩,iAt 4 3,iPart 26 ⟨#[66,97,115,101]⟩ ⟨#[110,101,120,116]⟩,iAt 5 3] st
 | 32 => bAdd [iAt 4 3,iOf 31 (selT n 6 [⟨#[66]⟩,⟨#[77,105,100]⟩,⟨#[73]⟩,⟨#[66,97,115,101]⟩,⟨#[79,98,106,101,99,116]⟩,⟨#[67]⟩]),iAt 5 0] st
 | 33 => bTry st.1.length (selT (n / 4) 2 [⟨#[67,97,115,116,70,97,117,108,116]⟩,⟨#[70,97,117,108,116]⟩]) ⟨#[99,97,115,116]⟩ (bAdd [iAt 4 3,iOf 30 (selT n 4 [⟨#[66]⟩,⟨#[77,105,100]⟩,⟨#[65]⟩,⟨#[68]⟩]),iAt 5 3] st)
 | 34 => bAdd [iAt 4 3,iAt 4 3,iPart 26 ⟨#[66,97,115,101]⟩ ⟨#[110,101,120,116]⟩,iOne 32,iAt 5 0] st
 | 35 => bTry st.1.length ⟨#[78,117,108,108,70,97,117,108,116]⟩ ⟨#[99,104,101,99,107]⟩ (bAdd [iAt 4 3,iOne 33] st)
 | 36 => bAdd [iOf 25 ⟨#[67]⟩,iOne 7,iNum n,iPart 27 ⟨#[77,105,100]⟩ ⟨#[109]⟩,iCall 34 ⟨#[67]⟩ ⟨#[101,120,116,114,97]⟩ ⟨#[40,41,73]⟩,iAt 5 0] st
 | 37 => bSet st.1.length (fun _ => iAt 4 4) (bAdd [iAt 4 3,iCall 36 ⟨#[85,116,105,108]⟩ ⟨#[112,97,115,115]⟩ ⟨#[40,76,73,59,41,76,73,59]⟩,iAt 5 4] st)
 | 38 => bTry st.1.length (selT n 2 [⟨#[69,114,114]⟩,⟨#[70,97,117,108,116]⟩]) ⟨#[116,104,114,111,119,110]⟩ (bAdd [iOf 25 (selT n 3 [⟨#[69,114,114]⟩,⟨#[69,114,114,50]⟩,⟨#[66,111,117,110,100,115,70,97,117,108,116]⟩]),iOne 38] st)
 | _ => bAdd [iCall 36 ⟨#[85,116,105,108]⟩ ⟨#[115,104,111,119]⟩ ⟨#[40,41,86]⟩] st
def roundS (a b : Nat) (st : BS) : BS :=
 if a = 255 then bAdd [iNum b,iOne 43] (snip (a % 40) b st) else snip (a % 40) b st
def roundsS : Nat -> List Nat -> BS -> BS
 | m + 1,a :: b :: l,st => roundsS m l (roundS a b st)
 | _,_,st => st
def bodyS (l : List Nat) : BS :=
 bAdd [iOne 40] (roundsS 20 l ([iNum 1,iAt 5 0,iStr ⟨#[115]⟩,iAt 5 1,iNum 3,iOne 21,iAt 5 2,iOf 25 ⟨#[65]⟩,iAt 5 3,iOne 3,iAt 5 4],[]))
def tI : Ty := (1,es)
def tS : Ty := (2,es)
def tV : Ty := (5,es)
def tR (s : ByteArray) : Ty := (4,s)
def mthS (name : ByteArray) (ps : List Ty) (r : Ty) (st : Bool) (lo : Int) (code : List Ins) : Mth := ⟨name,ps,r,st,false,lo,code,[]⟩
def absS : Mth := ⟨⟨#[114,117,110]⟩,[],tI,false,true,0,[],[]⟩
def clinitS (s : ByteArray) : Mth := mthS ⟨#[99,108,105,110,105,116]⟩ [] tV true 0 [iStr s,iOne 41,iOne 40]
def runS (c : ByteArray) (n : Nat) : Mth :=
 mthS ⟨#[114,117,110]⟩ [] tI false 1 ((if n / 5 % 4 = 1 then [iStr c,iOne 41] else if n / 5 % 4 = 2 then [iAt 4 0,iNum 9,iPart 27 ⟨#[66,97,115,101]⟩ ⟨#[119]⟩,iAt 4 0,iNum n,iPart 27 ⟨#[66,97,115,101]⟩ ⟨#[120]⟩] else []) ++
  [iAt 4 0,iPart 26 ⟨#[66,97,115,101]⟩ ⟨#[120]⟩,iNum ((n % 5 : Nat) : Int),iOne 8,iOne 39])
def utilS (k : Nat) : Cls :=
  ⟨⟨#[85,116,105,108]⟩,⟨#[79,98,106,101,99,116]⟩,[],1,[(⟨#[119,97,115,116,101]⟩,tI,true)],
    [mthS ⟨#[105,110,99]⟩ [tI] tI true 1 [iAt 4 0,iNum 1,iOne 8,iOne 39],
     mthS ⟨#[116,119,105,99,101]⟩ [tI] tI true 3 [iAt 4 0,iAt 5 2,iAt 4 2,iAt 4 2,iOne 8,iOne 39],
     mthS ⟨#[119,111,114,107]⟩ [tI] tI true 1 [iAt 4 0,iAt 20 4,iNum 7,iOne 39,iNum 3,iOne 39],
     mthS ⟨#[100,111,119,110]⟩ [tI] tI true 1 [iAt 4 0,iNum 1,iOne 14,iAt 20 6,iNum 0,iOne 39,iAt 4 0,iNum 50,iOne 9,iCall 36 ⟨#[85,116,105,108]⟩ ⟨#[100,111,119,110]⟩ ⟨#[40,73,41,73]⟩,iNum 1,iOne 8,iOne 39],
     mthS ⟨#[115,97,109,101]⟩ [tR ⟨#[66,97,115,101]⟩] (tR ⟨#[66,97,115,101]⟩) true 1 [iAt 4 0,iOne 39],
     mthS ⟨#[112,97,115,115]⟩ [tR ⟨#[73]⟩] (tR ⟨#[73]⟩) true 1 [iAt 4 0,iOne 39],
     mthS ⟨#[102,97,105,108]⟩ [] tV true 0 [iOf 25 ⟨#[69,114,114,50]⟩,iOne 38],
     mthS ⟨#[115,104,111,119]⟩ [] tV true 0 (if k % 2 = 1 then [iNum 5,iStr ⟨#[108,101,102,116]⟩,iOne 41,iOne 40] else [iStr ⟨#[115,104,111,119]⟩,iOne 41,iOne 40]),
     mthS ⟨#[100,101,97,100]⟩ [tI] tI true 1 [iAt 4 0,iCall 36 ⟨#[71,111,110,101]⟩ ⟨#[102]⟩ ⟨#[40,73,41,73]⟩,iOne 39]] ++ (if k / 2 % 2 = 1 then [clinitS ⟨#[117,116,105,108]⟩] else [])⟩
def whenS {α : Type} (b : Bool) (l : List α) : List α := if b then l else []
def bitS (k i : Nat) : Bool := decide (k / 2 ^ i % 2 = 1)
def familyS (k0 k1 k2 k3 : Nat) : List Cls :=
  [⟨⟨#[66,97,115,101]⟩,⟨#[79,98,106,101,99,116]⟩,[⟨#[73]⟩],2,[(⟨#[120]⟩,tI,false),(⟨#[110,101,120,116]⟩,tR ⟨#[66,97,115,101]⟩,false),(⟨#[119]⟩,tI,false),(⟨#[117,110,117,115,101,100]⟩,tS,false)],
      [mthS ⟨#[110,97,109,101]⟩ [] tS false 1 [iStr ⟨#[98,97,115,101]⟩,iOne 39]] ++ whenS (bitS k0 0) [absS] ++ whenS (bitS k0 1) [clinitS ⟨#[98,97,115,101]⟩]⟩,
   ⟨⟨#[65]⟩,⟨#[66,97,115,101]⟩,[],1,[(⟨#[99,111,117,110,116]⟩,tI,true)],[runS ⟨#[65]⟩ k1] ++ whenS (bitS k0 2) [clinitS ⟨#[97]⟩]⟩,
   ⟨⟨#[66]⟩,⟨#[65]⟩,[],if bitS k0 3 then 3 else 1,[],whenS (bitS k0 4) [runS ⟨#[66]⟩ k2] ++ whenS (bitS k0 5) [mthS ⟨#[110,97,109,101]⟩ [] tS false 1 [iAt 4 0,iCall 37 ⟨#[65]⟩ ⟨#[110,97,109,101]⟩ ⟨#[40,41,83]⟩,iStr ⟨#[43,98]⟩,iOne 16,iOne 39]]⟩,
   ⟨⟨#[77,105,100]⟩,⟨#[66,97,115,101]⟩,whenS (bitS k0 6) [⟨#[74]⟩],2,[(⟨#[109]⟩,tI,false)],[]⟩,
   ⟨⟨#[67]⟩,⟨#[77,105,100]⟩,[],1,[],[runS ⟨#[67]⟩ k3,mthS ⟨#[101,120,116,114,97]⟩ [] tI false 1 [iAt 4 0,iPart 26 ⟨#[77,105,100]⟩ ⟨#[109]⟩,iOne 39]] ++ whenS (bitS k0 7) [mthS ⟨#[110,97,109,101]⟩ [] tS false 1 [iAt 4 0,iCall 37 ⟨#[77,105,100]⟩ ⟨#[110,97,109,101]⟩ ⟨#[40,41,83]⟩,iStr ⟨#[43,99]⟩,iOne 16,iOne 39]]⟩,
   ⟨⟨#[68]⟩,⟨#[66,97,115,101]⟩,[⟨#[74]⟩],3,[(⟨#[119,97,115,116,101]⟩,tI,true),(⟨#[120]⟩,tS,false)],[runS ⟨#[68]⟩ ((k1 + k2) % 256)] ++ whenS (bitS k1 0) [clinitS ⟨#[100]⟩]⟩]
def mainS (k2 : Nat) (l m : List Nat) : Cls :=
 ⟨⟨#[77,97,105,110]⟩,⟨#[79,98,106,101,99,116]⟩,[],1,[],
  [⟨⟨#[109,97,105,110]⟩,[],tV,true,false,6,(bodyS l).1,(bodyS l).2⟩,⟨⟨#[97,108,116]⟩,[],tV,true,false,6,(bodyS m).1,(bodyS m).2⟩] ++ whenS (bitS k2 0) [clinitS ⟨#[109,97,105,110]⟩]⟩
def archS (k0 k1 k2 k3 : Nat) (l m : List Nat) : Arch :=
  (fun a : Arch => if bitS k2 2 then a.reverse else a)
   ([mainS k2 l m,⟨⟨#[73]⟩,⟨#[79,98,106,101,99,116]⟩,[],4,[],[absS]⟩,⟨⟨#[74]⟩,⟨#[79,98,106,101,99,116]⟩,[⟨#[73]⟩],4,[],whenS (bitS k2 1) [absS]⟩] ++ familyS k0 k1 k2 k3 ++
    [⟨⟨#[69,114,114]⟩,⟨#[70,97,117,108,116]⟩,[],1,[],[]⟩,⟨⟨#[69,114,114,50]⟩,⟨#[69,114,114]⟩,[],1,[],[]⟩,⟨⟨#[71,111,110,101]⟩,⟨#[65]⟩,[],1,[],[mthS ⟨#[102]⟩ [tI] tI true 1 [iOf 25 ⟨#[71,111,110,101]⟩,iOne 6,iAt 4 0,iOne 39]]⟩,utilS k3])
end Go.Proofs.YtofnbapnmhibaaaGreat.A
namespace Go.Proofs.YtofnbapnmhibaaaGreat.A
open Go.RowKit Go.Proofs.YtofnbapnmhibaaaGreat.D Go.Proofs.YtofnbapnmhibaaaGreat.O
def argsI (m : Mth) : Int := if m.st then (m.params.length : Int) else 1 + (m.params.length : Int)
def inB (k n : Int) : Bool := decide (0 <= k /\ k < n)
def findsB (lo n : Int) (x : Ins) : Bool := if x.1 = 4 ∨ x.1 = 5 then inB x.2.2.1 lo else if jumpsB x.1 then inB x.2.2.1 n else true
def standsB (n : Int) (h : Hnd) : Bool := decide (0 <= h.1 /\ h.1 < h.2.1 /\ h.2.1 <= n) && inB h.2.2.1 n
def runsB (m : Mth) : Bool := decide (0 < m.code.length ∨ 0 < m.hs.length ∨ m.locals ≠ 0)
def badAt {α : Type} (f : α -> Bool) : List α -> Option Nat
 | [] => none
 | x :: l => if f x then (badAt f l).map (· + 1) else some 0
def lastB (c : List Ins) : Bool := match c[c.length - 1]? with | some x => endsB x.1 | none => false
def codeA (lo : Int) (c : List Ins) : Int × Int :=
 match badAt (findsB lo c.length) c with
 | some k => ((k : Int),28)
 | none => if lastB c then (0,0) else ((c.length : Int) - 1,31)
def mthA (m : Mth) : Int × Int :=
 if m.ab then (if runsB m then (-1,25) else (0,0)) else if m.code = [] then (-1,25) else if m.locals < argsI m then (-1,22) else
 if (codeA m.locals m.code).2 ≠ 0 then codeA m.locals m.code else if m.hs.all (standsB m.code.length) then (0,0) else (-1,28)
theorem badAt_some {α : Type} {f : α -> Bool} : ∀ {l : List α} {k : Nat} {y : α},(∀ (j : Nat) x,j < k -> l[j]? = some x -> f x = true) -> l[k]? = some y -> f y = false -> badAt f l = some k
 | [],k,y,_,h,_ => by simp at h
 | x :: l,0,y,_,h,hy => by
  simp only [List.getElem?_cons_zero,Option.some.injEq] at h
  subst h
  unfold badAt
  rw [if_neg (by rw [hy]; decide)]
 | x :: l,k + 1,y,h0,h,hy => by
  unfold badAt
  rw [if_pos (h0 0 x (by omega) rfl),badAt_some (f := f) (l := l) (k := k) (y := y) (fun j z hj hz => h0 (j + 1) z (by omega) hz) h hy]
  rfl
theorem badAt_none {α : Type} {f : α -> Bool} : ∀ {l : List α},(∀ (j : Nat) x,l[j]? = some x -> f x = true) -> badAt f l = none
 | [],_ => rfl
 | x :: l,h0 => by
  unfold badAt
  rw [if_pos (h0 0 x rfl),badAt_none (l := l) (fun j z hz => h0 (j + 1) z hz)]
  rfl
theorem all_some {α : Type} {f : α -> Bool} {l : List α} {k : Nat} {y : α} (h : l[k]? = some y) (hy : f y = false) : l.all f = false := by
 rw [List.all_eq_false]
 exact ⟨y,List.mem_of_getElem? h,by rw [hy]; decide⟩
theorem all_none {α : Type} {f : α -> Bool} {l : List α} (h : ∀ (j : Nat) x,l[j]? = some x -> f x = true) : l.all f = true := by
 rw [List.all_eq_true]
 intro x hx
 obtain ⟨j,hj⟩ := List.getElem?_of_mem hx
 exact h j x hj
theorem mthA_ab {m : Mth} (h : m.ab = true) : mthA m = if runsB m then (-1,25) else (0,0) := by unfold mthA; rw [if_pos h]
theorem mthA_no {m : Mth} (h : m.ab = false) (hc : m.code = []) : mthA m = (-1,25) := by unfold mthA; rw [if_neg (by rw [h]; decide),if_pos hc]
theorem mthA_few {m : Mth} (h : m.ab = false) (hc : ¬ m.code = []) (hl : m.locals < argsI m) : mthA m = (-1,22) := by unfold mthA; rw [if_neg (by rw [h]; decide),if_neg hc,if_pos hl]
theorem mthA_code {m : Mth} (h : m.ab = false) (hc : ¬ m.code = []) (hl : ¬ m.locals < argsI m) (he : (codeA m.locals m.code).2 ≠ 0) : mthA m = codeA m.locals m.code := by unfold mthA; rw [if_neg (by rw [h]; decide),if_neg hc,if_neg hl,if_pos he]
theorem mthA_hs {m : Mth} (h : m.ab = false) (hc : ¬ m.code = []) (hl : ¬ m.locals < argsI m) (he : (codeA m.locals m.code).2 = 0) : mthA m = if m.hs.all (standsB m.code.length) then (0,0) else (-1,28) := by unfold mthA; rw [if_neg (by rw [h]; decide),if_neg hc,if_neg hl,if_neg (by rw [he]; decide)]
def seat0 : Arch := archS 0 0 0 0 [] []
theorem seat0_right : rightA seat0 = true := by decide +kernel
theorem seat0_free : (seat0.all fun c => c.methods.all fun m => decide (mthA m = (0,0))) = true := by decide +kernel
theorem seat0_ok : ∀ c ∈ seat0,∀ m ∈ c.methods,mthA m = (0,0) := fun c hc m hm => of_decide_eq_true (List.all_eq_true.1 (List.all_eq_true.1 seat0_free c hc) m hm)
def bare0 : Cls := ⟨⟨#[]⟩,⟨#[]⟩,[],0,[],[]⟩
theorem bare0_right : rightA [bare0] = false := by decide +kernel
end Go.Proofs.YtofnbapnmhibaaaGreat.A
